/- What the program's BitsTake, BitsGive and BitsLongest return: for every slice of bools and all numbers. -/
import Derived.Test.YtphcbjoafnffnaaDoorBd
import Derived.Test.YtphcbjoafnffnaaDoorBw
import Derived.Lib.SliceRun
import Derived.BigQuiet
namespace Go.Proofs.YtphcbjoafnffnaaDoor
open Go.RowKit

theorem bitmapValid_any (A : Option Addr) (n c : Nat) (w : World) (hn : n ≤ 1099511627776) : Calls Tryd.prog 19 #[.slice A n c] w fun e w' => e = .returned (.bool (decide (n ≤ 64))) ∧ w = w' := by
  by_cases h : n ≤ 64
  · have h' : (n : Int) ≤ 64 := by omega
    go_enter Tryd.func19, Tryd.ntmps19
    go_wp2
    go_ret
    exact ⟨ret_bool (by simp [*]), rfl⟩
  · have h' : ¬ (n : Int) ≤ 64 := by omega
    go_enter Tryd.func19, Tryd.ntmps19
    go_wp2
    go_ret
    exact ⟨ret_bool (by simp [*]), rfl⟩
theorem manyValid_any (m : Int) (w : World) : Calls Tryd.prog 20 #[.int .i64 m] w fun e w' => e = .returned (.bool (decide (1 ≤ m) && decide (m ≤ 64))) ∧ w = w' := by
  go_enter Tryd.func20, Tryd.ntmps20
  go_wp2
  · go_ret
    exact ⟨ret_bool (by simp [*]), rfl⟩
  · go_ret
    exact ⟨ret_bool (by simp; omega), rfl⟩

namespace Bm
theorem pow_facts {k : Nat} (h : k < 64) : IntKind.u64.wrap (2 ^ k) = 2 ^ k ∧ (0 : Int) < 2 ^ k ∧ (2 : Int) ^ k < 18446744073709551616 := by
  have h1 : (2 : Nat) ^ k < 2 ^ 64 := Nat.pow_lt_pow_right (by omega) h
  have h2 : (0 : Nat) < 2 ^ k := Nat.pow_pos (by omega)
  have e : ((2 ^ k : Nat) : Int) = (2 : Int) ^ k := by rw [Int.natCast_pow]; rfl
  refine ⟨?_, by omega, by omega⟩
  rw [IntKind.wrap_u64]
  omega
theorem or_pow {V k : Nat} (hV : V < 18446744073709551616) (h : k < 64) : bits .or .u64 (V : Int) (2 ^ k) = ((V ||| 2 ^ k : Nat) : Int) := by
  have h1 : (2 : Nat) ^ k < 2 ^ 64 := Nat.pow_lt_pow_right (by omega) h
  have := u64_or_nat V (2 ^ k) hV (by omega)
  rw [← this, Int.natCast_pow]
  rfl
end Bm

set_option maxHeartbeats 1000000 in
theorem bitsThatAre_any (A : Option Addr) (n c : Nat) (xs : List Bool) (b : Bool) (w : World) (h : OS w w.heap.size A n xs) (hn : n ≤ 64) :
    Calls Tryd.prog 21 #[.slice A n c, .bool b] w fun e w' => e = .returned (.int .u64 (Bm.wordN xs b)) ∧ Below w.heap.size w w' := by
  have HW := Lib.hid (show Bm.wordN xs b = Bm.setN xs b n by rw [Bm.wordN, h.1])
  go_enter Tryd.func21, Tryd.ntmps21
  go_wp2_with fail
  go_loopw [5, 10] (fun v i wr => ∃ k : Nat, k ≤ n ∧ i = .int .i64 k ∧ v = .int .u64 (Bm.setN xs b k : Nat) ∧ wr = w) (fun _ i _ => n - (intOf i).toNat)
  case atStart => exact ⟨0, Nat.zero_le _, rfl, rfl, rfl⟩
  case round =>
    obtain ⟨k, hk, rfl, rfl, rfl⟩ := hrel
    by_cases hlt : k < n
    · obtain ⟨g, o, x, rfl, hg, hx, c1⟩ := h.at_ hlt
      have hlt' : (k : Int) < n := by omega
      have hV := Bm.setN_64 xs b (k := k) (by omega)
      obtain ⟨p1, p2, p3⟩ := Bm.pow_facts (k := k) (by omega)
      have hor := Bm.or_pow (V := Bm.setN xs b k) (k := k) hV (by omega)
      have hkneg : ¬ ((k : Int) < 0) := by omega
      by_cases hxb : x = b
      · subst hxb
        have HN := Lib.hid (show Bm.setN xs x (k + 1) = Bm.setN xs x k ||| 2 ^ k by rw [Bm.setN, if_pos hx])
        clear hx
        go_wp2_with fail
        go_roundw
        case rel => exact ⟨k + 1, by omega, by go_num, by rw [HN.out], trivial⟩
        case measure => simp [intOf]; omega
      · have HN := Lib.hid (show Bm.setN xs b (k + 1) = Bm.setN xs b k by rw [Bm.setN, if_neg (by rw [hx]; simpa using hxb)])
        have hne : (x == b) = false := by rw [beq_eq_false_iff_ne]; exact hxb
        clear hx hxb
        go_wp2_with fail
        go_roundw
        case rel => exact ⟨k + 1, by omega, by go_num, by rw [HN.out], trivial⟩
        case measure => simp [intOf]; omega
    · obtain rfl : k = n := by omega
      go_wp2_with fail
      go_ret
      exact ⟨by rw [HW.out]; rfl, Below.refl _ _⟩

namespace Bm
theorem mask_walk {S M : Nat} (h : S + M ≤ 64) : IntKind.u64.wrap (18446744073709551615 / 2 ^ (64 - M) * 2 ^ S) = (maskN S M : Int) := by
  have h1 := maskN_lt h
  have h2 := full_div (m := M) (by omega)
  have e : (18446744073709551615 / 2 ^ (64 - M) * 2 ^ S : Int) = ((18446744073709551615 / 2 ^ (64 - M) * 2 ^ S : Nat) : Int) := by
    rw [Int.natCast_mul, Int.natCast_ediv, Int.natCast_pow, Int.natCast_pow]
    rfl
  rw [e, h2, IntKind.wrap_u64]
  unfold maskN at h1 ⊢
  omega
end Bm

set_option maxHeartbeats 1000000 in
theorem bitsFrom_in (S M n : Nat) (w : World) (h1 : 1 ≤ M) (h2 : S + M ≤ n) (hn : n ≤ 64) :
    Calls Tryd.prog 27 #[.int .i64 S, .int .i64 M, .int .i64 n] w fun e w' => e = .returned (.int .u64 (Bm.maskN S M)) ∧ w = w' := by
  have hs0 : decide ((S : Int) < 0) = false := decide_eq_false (by omega)
  have hs1 : decide ((S : Int) > (n : Int) - M) = false := decide_eq_false (by omega)
  have HM := Lib.hid (Bm.mask_walk (S := S) (M := M) (by omega))
  go_enter Tryd.func27, Tryd.ntmps27
  go_wp2_with fail
  go_ret
  exact ⟨by rw [← HM.out]; rfl, rfl⟩
theorem bitsFrom_out (s m : Int) (n : Nat) (w : World) (hm : 1 ≤ m ∧ m ≤ 64) (hn : n ≤ 64) (h : (decide (0 ≤ s) && decide (s ≤ (n : Int) - m)) = false) :
    Calls Tryd.prog 27 #[.int .i64 s, .int .i64 m, .int .i64 n] w fun e w' => e = .returned (.int .u64 0) ∧ w = w' := by
  by_cases h0 : s < 0
  · go_enter Tryd.func27, Tryd.ntmps27
    go_wp2_with fail
    go_ret
    exact ⟨rfl, rfl⟩
  · have h0' : decide (s < 0) = false := decide_eq_false h0
    have h1 : (n : Int) - m < s := by
      rw [Bool.and_eq_false_iff, decide_eq_false_iff_not, decide_eq_false_iff_not] at h
      omega
    clear h
    go_enter Tryd.func27, Tryd.ntmps27
    go_wp2_with fail
    go_ret
    exact ⟨rfl, rfl⟩

theorem cloneO_any (A : Option Addr) (n c : Nat) (xs : List Bool) (w : World) (h : OS w w.heap.size A n xs) (hn : n ≤ 1099511627776) :
    Calls Tryd.prog 28 #[.slice A n c] w (GaveO w xs) := by
  have q : ∀ (w : World) (a : Option Addr) (n c n' c' : Nat), (binOp .eql 23 (.slice a n c) (.slice none n' c')).run Tryd.prog w = .ok (.bool a.isNone) w := fun w a n c n' c' => Lib.run_eql_slice_nil w _ _ a n c n' c' Tryd.underlying23
  cases A with
  | none =>
    have h0 : n = 0 := by
      rcases Nat.eq_zero_or_pos n with h0 | h0
      · exact h0
      · obtain ⟨g, o, e, _⟩ := h.2 h0
        cases e
    have : xs = [] := List.eq_nil_of_length_eq_zero (h.1.trans h0)
    subst this h0
    go_enter Tryd.func28, Tryd.ntmps28
    go_wp2
    go_ret
    exact ⟨_, rfl, World.ownsRow_nil _ _ _ _, Below.refl _ _⟩
  | some a =>
    have o0 := own_noneO w w.heap.size (Nat.le_refl _)
    have bl0 : Below w.heap.size w (w.alloc (.cells #[] 4)) := (Below.refl _ _).alloc (Nat.le_refl _) _
    have r0 := h.below bl0
    go_enter Tryd.func28, Tryd.ntmps28
    go_wp2_with (at_builtin; refine wpList_appendO rfl (.tmp 5) (.tmp 6) rfl w.heap.size _ [] rfl o0 (some a) n c w.heap.size xs rfl r0 (by simp <;> omega) (by simp) ?_; intro v1 w1 o1 g1 s1)
    go_ret
    exact ⟨_, rfl, OwnO.cast (by simp) o1, bl0.grown g1 (by simp) (fun k hk => (World.ownsRow.lt o0 k hk).1)⟩

namespace Bm
theorem and_pow' {V k : Nat} (hV : V < 18446744073709551616) (h : k < 64) : bits .and .u64 (V : Int) (2 ^ k) = if V.testBit k = true then 2 ^ k else 0 := by
  have h1 : (2 : Nat) ^ k < 2 ^ 64 := Nat.pow_lt_pow_right (by omega) h
  have := u64_and_nat V (2 ^ k) hV (by omega)
  rw [Int.natCast_pow] at this
  rw [show (2 : Int) ^ k = ((2 : Nat) : Int) ^ k from rfl, this, and_pow]
  split
  · rw [Int.natCast_pow]
  · rfl
end Bm

namespace Bm
/-- the first k of n words as bools, the others false -/
def flagL (V n k : Nat) : List Bool := (List.range k).map V.testBit ++ List.replicate (n - k) false
theorem flagL_len {V n k : Nat} (h : k ≤ n) : (flagL V n k).length = n := by simp [flagL]; omega
theorem flagL_zero (V n : Nat) : flagL V n 0 = List.replicate n false := by simp [flagL]
theorem flagL_end (V n : Nat) : flagL V n n = (List.range n).map V.testBit := by simp [flagL]
theorem flagL_succ {V n k : Nat} (h : k < n) : (flagL V n k).set k (V.testBit k) = flagL V n (k + 1) := by
  apply List.ext_getElem?
  intro i
  unfold flagL
  rw [List.getElem?_set, List.length_append, List.length_map, List.length_range, List.length_replicate]
  rcases Nat.lt_trichotomy i k with h1 | h1 | h1
  · rw [if_neg (by omega), List.getElem?_append_left (by simp; omega), List.getElem?_append_left (by simp; omega), List.getElem?_map, List.getElem?_map, List.getElem?_range h1, List.getElem?_range (by omega)]
  · subst h1
    rw [if_pos rfl, if_pos (by omega), List.getElem?_append_left (by simp), List.getElem?_map, List.getElem?_range (by omega)]
    rfl
  · rw [if_neg (by omega), List.getElem?_append_right (by simp; omega), List.getElem?_append_right (by simp; omega)]
    simp only [List.length_map, List.length_range, List.getElem?_replicate]
    congr 1
    apply propext
    omega
end Bm

set_option maxHeartbeats 1000000 in
theorem flags_any (V n : Nat) (w : World) (hV : V < 18446744073709551616) (hn : n ≤ 64) :
    Calls Tryd.prog 29 #[.int .u64 V, .int .i64 n] w (GaveO w ((List.range n).map V.testBit)) := by
  have hmk := makeO w n (by omega)
  have o2 := own_madeO w n (by omega)
  have b2 : Below w.heap.size w (w.alloc (.cells (Array.replicate n (.bool false)) 4)) := (Below.refl _ _).alloc (Nat.le_refl _) _
  obtain ⟨w2, hw2⟩ : ∃ w2, w.alloc (.cells (Array.replicate n (.bool false)) 4) = w2 := ⟨_, rfl⟩
  rw [hw2] at hmk o2 b2
  rw [← Bm.flagL_zero V n] at o2
  have HE := Lib.hid (Bm.flagL_end V n)
  clear hw2
  go_enter Tryd.func29, Tryd.ntmps29
  go_wp2
  clear hmk
  go_loopw [11] (fun i wr => ∃ k : Nat, k ≤ n ∧ i = .int .i64 k ∧ OwnO wr w.heap.size (.slice (some ⟨w.heap.size, 0, none⟩) n n) (Bm.flagL V n k) ∧ Below w.heap.size w wr) (fun i _ => n - (intOf i).toNat)
  case atStart => exact ⟨0, Nat.zero_le _, rfl, o2, b2⟩
  case round =>
    clear o2 b2
    obtain ⟨k, hk, rfl, ho, hb⟩ := hrel
    have hlen := Bm.flagL_len (V := V) hk
    by_cases hlt : k < n
    · obtain ⟨g', o', x, e', _, _, c1⟩ := ho.reads.at_ (k := k) (by omega)
      injection e' with e'
      injection e' with e1 e2
      subst e1 e2
      rw [Nat.zero_add] at c1
      have fz : wr.frozen? ⟨w.heap.size, k, none⟩ = false := ho.frozen hlen k
      have t1 : (k : Int) < n := by omega
      obtain ⟨p1, p2, p3⟩ := Bm.pow_facts (k := k) (by omega)
      have hand := Bm.and_pow' (V := V) (k := k) hV (by omega)
      have hkneg : ¬ ((k : Int) < 0) := by omega
      have on := OwnO.cast (Bm.flagL_succ (V := V) hlt) (ho.put' (j := k) hlen (V.testBit k))
      have bn := hb.setCell (p := ⟨w.heap.size, k, none⟩) (Nat.le_refl _) (.bool (V.testBit k))
      clear ho hlen
      cases ht : V.testBit k
      · rw [ht] at hand on bn
        rw [if_neg (by decide)] at hand
        clear ht
        go_wp2_with fail
        go_roundw
        case rel => exact ⟨k + 1, by omega, by go_num, on, bn⟩
        case measure => simp [intOf]; omega
      · rw [ht] at hand on bn
        rw [if_pos rfl] at hand
        have hz : ((2 : Int) ^ k != 0) = true := by rw [bne_iff_ne]; omega
        clear ht
        go_wp2_with fail
        go_roundw
        case rel => exact ⟨k + 1, by omega, by go_num, on, bn⟩
        case measure => simp [intOf]; omega
    · obtain rfl : k = n := by omega
      clear hlen
      go_wp2_with fail
      go_ret
      exact ⟨_, rfl, OwnO.cast HE.out ho, hb⟩

namespace Bm
theorem and_shr {V : Nat} (k : Nat) (hV : V < 18446744073709551616) : bits .and .u64 (V : Int) ((V : Int) / 2 ^ k) = ((V &&& V / 2 ^ k : Nat) : Int) := by
  have h1 : V / 2 ^ k ≤ V := Nat.div_le_self _ _
  have := u64_and_nat V (V / 2 ^ k) hV (by omega)
  rw [Int.natCast_ediv, Int.natCast_pow] at this
  exact this
theorem and_half {V : Nat} (hV : V < 18446744073709551616) : bits .and .u64 (V : Int) ((V : Int) / 2) = ((V &&& V / 2 : Nat) : Int) := and_shr 1 hV
end Bm

set_option maxHeartbeats 1000000 in
theorem longestRun_any (xs : List Bool) (w : World) (hl : xs.length ≤ 64) :
    Calls Tryd.prog 30 #[.int .u64 (Bm.wordN xs false)] w fun e w' => e = .returned (.int .i64 (Bm.longN xs)) ∧ w = w' := by
  have HV := Bm.wordN_lt xs false hl
  have HR := Lib.hid (Bm.runs_one (Bm.wordN xs false))
  obtain ⟨W, hW⟩ : ∃ W, Bm.wordN xs false = W := ⟨_, rfl⟩
  have HW := Lib.hid hW
  rw [hW] at HV HR ⊢
  clear hW
  go_enter Tryd.func30, Tryd.ntmps30
  go_wp2_with fail
  go_loopw [0, 3] (fun v t wr => ∃ V T : Nat, v = .int .u64 V ∧ t = .int .i64 T ∧ V < 18446744073709551616 ∧ T ≤ 64 ∧ Hid (Bm.runsN W (T + 1) V) ∧ Hid (T = 0 ∨ ∃ s, Bm.runF xs s T false = true) ∧ wr = w) (fun v _ _ => (intOf v).toNat)
  case atStart => exact ⟨W, 0, rfl, rfl, HV, by omega, HR, Lib.hid (.inl rfl), rfl⟩
  case round =>
    obtain ⟨V, T, rfl, rfl, hV, hT, R, E, rfl⟩ := hrel
    by_cases h0 : V = 0
    · subst h0
      have HF := Lib.hid (Bm.long_zero (xs := xs) (t := T) (by rw [HW.out]; exact R.out) E.out)
      go_wp2_with fail
      go_ret
      exact ⟨by rw [HF.out]; rfl, rfl⟩
    · have hne : ((V : Int) != 0) = true := by rw [bne_iff_ne]; omega
      have hsome := Bm.runs_some (xs := xs) (n := T + 1) (by rw [HW.out]; exact R.out) h0
      have hT2 : T + 1 ≤ 64 := by
        obtain ⟨s, hs⟩ := hsome
        have := Bm.runF_len hs (by omega)
        omega
      have R2 : Hid (Bm.runsN W (T + 1 + 1) (V &&& V / 2)) := Lib.hid (Bm.runs_step (k := 1) R.out (by omega))
      have E2 : Hid (T + 1 = 0 ∨ ∃ s, Bm.runF xs s (T + 1) false = true) := Lib.hid (.inr hsome)
      have hand := Bm.and_half hV
      have hlt2 := Bm.half_lt h0
      have hV2 : V &&& V / 2 < 18446744073709551616 := by omega
      clear hsome
      go_wp2_with fail
      go_roundw
      case rel => exact ⟨V &&& V / 2, T + 1, rfl, by go_num, hV2, hT2, R2, E2, trivial⟩
      case measure => simp [intOf]; exact hlt2

set_option maxHeartbeats 1000000 in
theorem bitsLongest_any (A : Option Addr) (n c : Nat) (xs : List Bool) (w : World) (h : OS w w.heap.size A n xs) (hn : n ≤ 1099511627776) (_hc : n ≤ c) :
    Calls Tryd.prog 11 #[.slice A n c] w fun e w' => e = .returned (.int .i64 (Bm.longW xs)) ∧ Below w.heap.size w w' := by
  have hl := h.1
  by_cases h64 : n ≤ 64
  · have HF := Lib.hid (show Bm.longW xs = (Bm.longN xs : Int) by rw [Bm.longW, hl, if_pos h64])
    have HD := Lib.hid (decide_eq_true h64)
    go_enter Tryd.func11, Tryd.ntmps11
    go_wp2_with fail
    refine (bitmapValid_any _ _ _ _ hn).mono ?_
    rw [HD.out]
    rintro e w1 ⟨rfl, rfl⟩
    go_wp2_with fail
    refine (bitsThatAre_any _ _ _ xs _ _ h h64).mono ?_
    rintro e w2 ⟨rfl, b2⟩
    go_wp2_with fail
    refine (longestRun_any xs _ (by omega)).mono ?_
    rintro e w3 ⟨rfl, rfl⟩
    go_wp2_with fail
    go_ret
    exact ⟨by rw [HF.out]; rfl, b2⟩
  · have HF := Lib.hid (show Bm.longW xs = -1 by rw [Bm.longW, hl, if_neg h64])
    have HD := Lib.hid (decide_eq_false h64)
    go_enter Tryd.func11, Tryd.ntmps11
    go_wp2_with fail
    refine (bitmapValid_any _ _ _ _ hn).mono ?_
    rw [HD.out]
    rintro e w1 ⟨rfl, rfl⟩
    go_wp2_with fail
    go_ret
    exact ⟨by rw [HF.out]; rfl, Below.refl _ _⟩

namespace Bm
theorem mask_and {xs : List Bool} {S M : Nat} (b : Bool) (h : S + M ≤ xs.length) (hl : xs.length ≤ 64) : bits .and .u64 (maskN S M : Int) (wordN xs b : Int) = ((maskN S M &&& wordN xs b : Nat) : Int) := u64_and_nat _ _ (maskN_lt (by omega)) (wordN_lt xs b hl)
theorem mask_or {xs : List Bool} {S M : Nat} (b : Bool) (h : S + M ≤ xs.length) (hl : xs.length ≤ 64) : bits .or .u64 (wordN xs b : Int) (maskN S M : Int) = ((wordN xs b ||| maskN S M : Nat) : Int) := u64_or_nat _ _ (wordN_lt xs b hl) (maskN_lt (by omega))
theorem mask_not {xs : List Bool} {S M : Nat} (h : S + M ≤ xs.length) (hl : xs.length ≤ 64) : bits .andNot .u64 (maskN S M : Int) (wordN xs true : Int) = ((maskN S M &&& (18446744073709551615 - wordN xs true) : Nat) : Int) := u64_andNot_nat _ _ (maskN_lt (by omega)) (wordN_lt xs true hl)
theorem word_not {xs : List Bool} {S M : Nat} (h : S + M ≤ xs.length) (hl : xs.length ≤ 64) : bits .andNot .u64 (wordN xs true : Int) (maskN S M : Int) = ((wordN xs true &&& (18446744073709551615 - maskN S M) : Nat) : Int) := u64_andNot_nat _ _ (wordN_lt xs true hl) (maskN_lt (by omega))
theorem or_lt {xs : List Bool} {S M : Nat} (b : Bool) (h : S + M ≤ xs.length) (hl : xs.length ≤ 64) : wordN xs b ||| maskN S M < 18446744073709551616 := Nat.or_lt_two_pow (n := 64) (wordN_lt xs b hl) (maskN_lt (by omega))
theorem flags_take {xs : List Bool} {S M : Nat} (h : S + M ≤ xs.length) : (List.range xs.length).map (wordN xs true ||| maskN S M).testBit = setR xs S M true := word_list _ (setR_len true h) _ fun i _ => take_bit h i
theorem flags_give {xs : List Bool} {S M : Nat} (h : S + M ≤ xs.length) (hl : xs.length ≤ 64) : (List.range xs.length).map (wordN xs true &&& (18446744073709551615 - maskN S M)).testBit = setR xs S M false := word_list _ (setR_len false h) _ fun i hi => give_bit h hl (by omega)
end Bm

set_option maxHeartbeats 2000000 in
theorem bitsTake_any (A : Option Addr) (n c : Nat) (xs : List Bool) (s m : Int) (w : World) (h : OS w w.heap.size A n xs) (hn : n ≤ 1099511627776) (_hc : n ≤ c) :
    Calls Tryd.prog 10 #[.slice A n c, .int .i64 s, .int .i64 m] w (GaveO2 w (Bm.chgW xs s m true) (Bm.chgOk xs s m true)) := by
  have hl := h.1
  have HNIL : OwnO w w.heap.size (.slice none 0 0) [] := World.ownsRow_nil _ _ _ _
  by_cases h64 : n ≤ 64
  · have HD := Lib.hid (decide_eq_true h64)
    cases hm : (decide ((1 : Int) ≤ m) && decide (m ≤ 64))
    · have HF := Lib.hid (Bm.chgW_bad (xs := xs) (s := s) (m := m) (b := true) (by rw [Bm.okM, hm]; rfl))
      have HM := Lib.hid hm
      clear hm
      go_enter Tryd.func10, Tryd.ntmps10
      go_wp2_with fail
      refine (bitmapValid_any _ _ _ _ hn).mono ?_
      rw [HD.out]
      rintro e w1 ⟨rfl, rfl⟩
      go_wp2_with fail
      refine (manyValid_any _ _).mono ?_
      rw [HM.out]
      rintro e w1 ⟨rfl, rfl⟩
      go_wp2_with fail
      go_ret2
      exact GaveO2.of HNIL (Below.refl _ _) HF.out.1.symm HF.out.2.symm
    · have ho : Bm.okM xs m = true := by rw [Bm.okM, hm, hl]; simpa using h64
      obtain ⟨⟨m1, m2⟩, _⟩ := Bm.okM_iff.1 ho
      have HM := Lib.hid hm
      have HO := Lib.hid ho
      clear hm ho HNIL
      cases hs : (decide ((0 : Int) ≤ s) && decide (s ≤ (n : Int) - m))
      · have HF := Lib.hid (Bm.chgW_no (b := true) (s := s) HO.out (Bm.canW_out (by rw [hl]; exact hs)))
        have HS := Lib.hid hs
        clear hs
        go_enter Tryd.func10, Tryd.ntmps10
        go_wp2_with fail
        refine (bitmapValid_any _ _ _ _ hn).mono ?_
        rw [HD.out]
        rintro e w1 ⟨rfl, rfl⟩
        go_wp2_with fail
        refine (manyValid_any _ _).mono ?_
        rw [HM.out]
        rintro e w1 ⟨rfl, rfl⟩
        go_wp2_with fail
        refine (bitsFrom_out _ _ _ _ ⟨m1, m2⟩ h64 HS.out).mono ?_
        rintro e w1 ⟨rfl, rfl⟩
        go_wp2_with fail
        refine (bitsThatAre_any _ _ _ xs _ _ h h64).mono ?_
        rintro e w2 ⟨rfl, b2⟩
        have o2 := h.up b2
        go_wp2_with fail
        refine (cloneO_any _ _ _ xs _ o2 (by omega)).mono ?_
        rintro e w3 ⟨v3, rfl, o3, b3⟩
        go_wp2_with fail
        go_ret2
        exact GaveO2.of (o3.base b2.size) (b2.trans (b3.mono b2.size)) HF.out.1.symm HF.out.2.symm
      · have hs2 := hs
        simp only [Bool.and_eq_true, decide_eq_true_eq] at hs2
        obtain ⟨S, rfl⟩ := Int.eq_ofNat_of_zero_le hs2.1
        obtain ⟨M, rfl⟩ := Int.eq_ofNat_of_zero_le (show 0 ≤ m by omega)
        have hSM : S + M ≤ n := by omega
        have hM1 : 1 ≤ M := by omega
        have HC := Lib.hid (Bm.canW_in (b := false) (by rw [hl]; exact hs))
        have hz : ((Bm.maskN S M : Int) == 0) = false := by
          rw [beq_eq_false_iff_ne]
          have := Bm.maskN_pos (s := S) (m := M) hM1
          omega
        have hand := Bm.mask_and (b := true) (xs := xs) (S := S) (M := M) (by omega) (by omega)
        clear hs hs2
        cases hr : Bm.runF xs S M false
        · have HF := Lib.hid (Bm.chgW_no (b := true) (s := (S : Int)) HO.out (by rw [Bool.not_true, HC.out]; exact hr))
          have hne : (((Bm.maskN S M &&& Bm.wordN xs true : Nat) : Int) != 0) = true := by
            rw [bne_iff_ne]
            intro e
            have : Bm.runF xs S M false = true := (Bm.clash (xs := xs) (S := S) (M := M) true (by omega)).1 (Int.ofNat.inj e)
            rw [hr] at this
            cases this
          clear hr
          go_enter Tryd.func10, Tryd.ntmps10
          go_wp2_with fail
          refine (bitmapValid_any _ _ _ _ hn).mono ?_
          rw [HD.out]
          rintro e w1 ⟨rfl, rfl⟩
          go_wp2_with fail
          refine (manyValid_any _ _).mono ?_
          rw [HM.out]
          rintro e w1 ⟨rfl, rfl⟩
          go_wp2_with fail
          refine (bitsFrom_in _ _ _ _ hM1 hSM h64).mono ?_
          rintro e w1 ⟨rfl, rfl⟩
          go_wp2_with fail
          refine (bitsThatAre_any _ _ _ xs _ _ h h64).mono ?_
          rintro e w2 ⟨rfl, b2⟩
          have o2 := h.up b2
          go_wp2_with fail
          refine (cloneO_any _ _ _ xs _ o2 (by omega)).mono ?_
          rintro e w3 ⟨v3, rfl, o3, b3⟩
          go_wp2_with fail
          go_ret2
          exact GaveO2.of (o3.base b2.size) (b2.trans (b3.mono b2.size)) HF.out.1.symm HF.out.2.symm
        · have HF := Lib.hid (Bm.chg_yes (b := true) (by rw [hl]; exact h64) hM1 (by rw [hl]; exact hSM) hr)
          have hze : Bm.maskN S M &&& Bm.wordN xs true = 0 := (Bm.clash (xs := xs) (S := S) (M := M) true (by omega)).2 hr
          rw [hze] at hand
          have hnew := Bm.mask_or (b := true) (xs := xs) (S := S) (M := M) (by omega) (by omega)
          have hlt : Bm.wordN xs true ||| Bm.maskN S M < 18446744073709551616 := Bm.or_lt true (by omega) (by omega)
          have HL := Lib.hid (show (List.range n).map (Bm.wordN xs true ||| Bm.maskN S M).testBit = Bm.setR xs S M true by rw [← hl]; exact Bm.flags_take (by omega))
          clear hr hze
          go_enter Tryd.func10, Tryd.ntmps10
          go_wp2_with fail
          refine (bitmapValid_any _ _ _ _ hn).mono ?_
          rw [HD.out]
          rintro e w1 ⟨rfl, rfl⟩
          go_wp2_with fail
          refine (manyValid_any _ _).mono ?_
          rw [HM.out]
          rintro e w1 ⟨rfl, rfl⟩
          go_wp2_with fail
          refine (bitsFrom_in _ _ _ _ hM1 hSM h64).mono ?_
          rintro e w1 ⟨rfl, rfl⟩
          go_wp2_with fail
          refine (bitsThatAre_any _ _ _ xs _ _ h h64).mono ?_
          rintro e w2 ⟨rfl, b2⟩
          go_wp2_with fail
          refine (flags_any _ _ _ hlt h64).mono ?_
          rw [HL.out]
          rintro e w3 ⟨v3, rfl, o3, b3⟩
          go_wp2_with fail
          go_ret2
          exact GaveO2.of (o3.base b2.size) (b2.trans (b3.mono b2.size)) HF.out.2.symm HF.out.1.symm
  · have HD := Lib.hid (decide_eq_false h64)
    have HF := Lib.hid (Bm.chgW_bad (xs := xs) (s := s) (m := m) (b := true) (by rw [Bm.okM, hl, decide_eq_false h64, Bool.and_false]))
    go_enter Tryd.func10, Tryd.ntmps10
    go_wp2_with fail
    refine (bitmapValid_any _ _ _ _ hn).mono ?_
    rw [HD.out]
    rintro e w1 ⟨rfl, rfl⟩
    go_wp2_with fail
    go_ret2
    exact GaveO2.of HNIL (Below.refl _ _) HF.out.1.symm HF.out.2.symm

end Go.Proofs.YtphcbjoafnffnaaDoor
