/- What the model's functions of chapter 5 return: for every slice of bools and all numbers. -/
import Derived.Test.YtphcbjoafnffnaaDoorBb
namespace Go.Proofs.YtphcbjoafnffnaaDoor
open Go.RowKit
namespace Bm
theorem runF_succ {xs : List Bool} {s n : Nat} {b : Bool} (h : runF xs s n b = true) (hx : xs[s + n]? = some b) : runF xs s (n + 1) b = true := by
  rw [runF_iff] at h ⊢
  intro i hi
  rcases Nat.lt_or_ge i n with h1 | h1
  · exact h i h1
  · rw [show i = n by omega]
    exact hx
theorem runF_not {xs : List Bool} {s n k : Nat} {b c : Bool} (hk : k < n) (hx : xs[s + k]? = some c) (hne : c ≠ b) : runF xs s n b = false := by
  cases h : runF xs s n b
  · rfl
  · have := runF_iff.1 h k hk
    rw [hx] at this
    exact absurd (Option.some.inj this) hne
theorem findF_over {xs : List Bool} {m : Nat} : ∀ n k, xs.length < k + m → findF xs m k n = none
  | 0, _, _ => rfl
  | n + 1, k, h => by
    rw [findF, if_neg (by omega)]
    exact findF_over n (k + 1) (by omega)
theorem findF_yes {xs : List Bool} {m k n : Nat} (h1 : k + m ≤ xs.length) (h2 : runF xs k m false = true) : findF xs m k (n + 1) = some k := by rw [findF, if_pos ⟨h1, h2⟩]
theorem findF_no {xs : List Bool} {m k n : Nat} (h2 : runF xs k m false = false) : findF xs m k (n + 1) = findF xs m (k + 1) n := by rw [findF, if_neg (by rw [h2]; simp)]
theorem findW_bad {xs : List Bool} {m : Int} (h : okM xs m = false) : findW xs m = -1 := by rw [findW, h]; rfl
theorem findW_none {xs : List Bool} {m : Nat} (h : findN xs m = none) : findW xs m = -1 := by
  unfold findW
  rw [Int.toNat_natCast, h]
  split <;> rfl
theorem findW_some {xs : List Bool} {m k : Nat} (ho : okM xs m = true) (h : findN xs m = some k) : findW xs m = k := by
  unfold findW
  rw [Int.toNat_natCast, h, if_pos ho]
end Bm

set_option maxHeartbeats 1000000 in
theorem l5Free_any (A : Option Addr) (n c : Nat) (xs : List Bool) (S M : Nat) (w : World) (h : OS w w.heap.size A n xs) (hn : n ≤ 1099511627776) (hS : S + M ≤ n) :
    Calls Tryd.prog 25 #[.slice A n c, .int .i64 S, .int .i64 M] w fun e w' => e = .returned (.bool (Bm.runF xs S M false)) ∧ w' = w := by
  go_enter Tryd.func25, Tryd.ntmps25
  go_wp2_with fail
  go_loopw [7] (fun i wr => ∃ j : Nat, j ≤ M ∧ i = .int .i64 ((S + j : Nat) : Int) ∧ Hid (Bm.runF xs S j false = true) ∧ wr = w) (fun i _ => S + M - (intOf i).toNat)
  case atStart => exact ⟨0, Nat.zero_le _, rfl, Lib.hid rfl, rfl⟩
  case round =>
    obtain ⟨j, hj, rfl, HR, rfl⟩ := hrel
    by_cases hlt : j < M
    · obtain ⟨g, o, b, rfl, hg, hx, c1⟩ := h.at_ (k := S + j) (by omega)
      have HX := Lib.hid hx
      have t1 : ((S + j : Nat) : Int) < n := by omega
      have t2 : ((S + j : Nat) : Int) < (S : Int) + M := by omega
      clear hx
      cases b
      · have HN := Lib.hid (Bm.runF_succ HR.out HX.out)
        go_wp2_with fail
        go_roundw
        case rel => exact ⟨j + 1, by omega, by go_num, HN, trivial⟩
        case measure => simp [intOf]; omega
      · have HN := Lib.hid (Bm.runF_not (b := false) hlt HX.out (by simp))
        go_wp2_with fail
        go_ret
        exact ⟨ret_bool HN.out.symm, rfl⟩
    · obtain rfl : j = M := by omega
      have t2 : decide (((S + j : Nat) : Int) < (S : Int) + j) = false := decide_eq_false (by omega)
      go_wp2_with fail
      go_ret
      exact ⟨ret_bool HR.out.symm, rfl⟩

set_option maxHeartbeats 1000000 in
theorem mBitsFind_any (A : Option Addr) (n c : Nat) (xs : List Bool) (m : Int) (w : World) (h : OS w w.heap.size A n xs) (hn : n ≤ 1099511627776) :
    Calls Tryd.prog 8 #[.slice A n c, .int .i64 m] w fun e w' => e = .returned (.int .i64 (Bm.findW xs m)) ∧ Below w.heap.size w w' := by
  have hl := h.1
  cases hm : (decide ((1 : Int) ≤ m) && decide (m ≤ 64))
  · have HF := Lib.hid (Bm.findW_bad (xs := xs) (m := m) (by rw [Bm.okM, hm]; rfl))
    have HM := Lib.hid hm
    clear hm
    go_enter Tryd.func8, Tryd.ntmps8
    go_wp2_with fail
    refine (l1In_any _ _ _ _).mono ?_
    rw [HM.out]
    rintro e w' ⟨rfl, rfl⟩
    go_wp2_with fail
    go_ret
    exact ⟨by rw [HF.out]; rfl, Below.refl _ _⟩
  · by_cases h64 : n ≤ 64
    · have ho : Bm.okM xs m = true := by rw [Bm.okM, hm, hl]; simpa using h64
      obtain ⟨⟨m1, m2⟩, _⟩ := Bm.okM_iff.1 ho
      obtain ⟨M, rfl⟩ := Int.eq_ofNat_of_zero_le (show 0 ≤ m by omega)
      have HM := Lib.hid hm
      have HO := Lib.hid ho
      have h64' : decide ((64 : Int) < n) = false := decide_eq_false (by omega)
      clear hm ho
      go_enter Tryd.func8, Tryd.ntmps8
      go_wp2_with fail
      refine (l1In_any _ _ _ _).mono ?_
      rw [HM.out]
      rintro e w' ⟨rfl, rfl⟩
      go_wp2_with fail
      go_loopw [5] (fun i wr => ∃ k : Nat, k ≤ n ∧ i = .int .i64 k ∧ Hid (Bm.findN xs M = Bm.findF xs M k (n + 1 - k)) ∧ wr = w) (fun i _ => n + 1 - (intOf i).toNat)
      case atStart => exact ⟨0, Nat.zero_le _, rfl, Lib.hid (by rw [Bm.findN, hl]; rfl), rfl⟩
      case round =>
        obtain ⟨k, hk, rfl, HF, rfl⟩ := hrel
        by_cases hlt : k + M ≤ n
        · have t1 : (k : Int) + M ≤ n := by omega
          obtain ⟨q, hq⟩ : ∃ q, n + 1 - k = q + 1 := ⟨n - k, by omega⟩
          obtain ⟨r, hr⟩ : ∃ r, Bm.runF xs k M false = r := ⟨_, rfl⟩
          have HR := Lib.hid hr
          have HQ := Lib.hid hq
          clear hr hq
          go_wp2_with fail
          refine (l5Free_any _ _ _ xs _ _ _ h (by omega) hlt).mono ?_
          rw [HR.out]
          rintro e w' ⟨rfl, rfl⟩
          cases r
          · have HN := Lib.hid (show Bm.findN xs M = Bm.findF xs M (k + 1) (n + 1 - (k + 1)) by rw [HF.out, HQ.out, Bm.findF_no HR.out]; congr 1; have := HQ.out; omega)
            go_wp2_with fail
            go_roundw
            case rel => exact ⟨k + 1, by omega, by go_num, HN, trivial⟩
            case measure => simp [intOf]; omega
          · have HN := Lib.hid (Bm.findW_some HO.out (by rw [HF.out, HQ.out]; exact Bm.findF_yes (by rw [hl]; exact hlt) HR.out))
            go_wp2_with fail
            go_ret
            exact ⟨by rw [HN.out]; rfl, Below.refl _ _⟩
        · have t1 : decide ((k : Int) + M ≤ n) = false := decide_eq_false (by omega)
          have HN := Lib.hid (Bm.findW_none (by rw [HF.out]; exact Bm.findF_over _ _ (by rw [hl]; omega)))
          go_wp2_with fail
          go_ret
          exact ⟨by rw [HN.out]; rfl, Below.refl _ _⟩
    · have HF := Lib.hid (Bm.findW_bad (xs := xs) (m := m) (by rw [Bm.okM, hm, hl]; simpa using h64))
      have HM := Lib.hid hm
      have h64' : (64 : Int) < n := by omega
      clear hm
      go_enter Tryd.func8, Tryd.ntmps8
      go_wp2_with fail
      refine (l1In_any _ _ _ _).mono ?_
      rw [HM.out]
      rintro e w' ⟨rfl, rfl⟩
      go_wp2_with fail
      go_ret
      exact ⟨by rw [HF.out]; rfl, Below.refl _ _⟩

namespace Bm
theorem chgW_bad {xs : List Bool} {s m : Int} {b : Bool} (h : okM xs m = false) : chgW xs s m b = [] ∧ chgOk xs s m b = false := ⟨by rw [chgW, h]; rfl, by rw [chgOk, h]; rfl⟩
theorem chgW_no {xs : List Bool} {s m : Int} {b : Bool} (h : okM xs m = true) (hc : canW xs s m (!b) = false) : chgW xs s m b = xs ∧ chgOk xs s m b = false := ⟨by rw [chgW, h, hc]; rfl, by rw [chgOk, h, hc]; rfl⟩
theorem canW_out {xs : List Bool} {s m : Int} {b : Bool} (h : (decide (0 ≤ s) && decide (s ≤ xs.length - m)) = false) : canW xs s m b = false := by rw [canW, h]; rfl
theorem canW_in {xs : List Bool} {S M : Nat} {b : Bool} (h : (decide ((0 : Int) ≤ (S : Int)) && decide ((S : Int) ≤ xs.length - (M : Int))) = true) : canW xs S M b = runF xs S M b := by rw [canW, h]; rfl
end Bm

theorem GaveO2.of {w w' : World} {v : Value} {ys zs : List Bool} {ok ok' : Bool} (ho : OwnO w' w.heap.size v ys) (hb : Below w.heap.size w w') (e1 : ys = zs) (e3 : ok = ok') : GaveO2 w zs ok' (.returned (.tuple #[v, .bool ok])) w' := by
  subst e1 e3
  exact ⟨v, rfl, ho, hb⟩

end Go.Proofs.YtphcbjoafnffnaaDoor
