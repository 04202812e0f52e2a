/- What the model's BitsGive and BitsLongest return: for every slice of bools and all numbers. -/
import Derived.Test.YtphcbjoafnffnaaDoorBc
namespace Go.Proofs.YtphcbjoafnffnaaDoor
open Go.RowKit

set_option maxHeartbeats 1000000 in
theorem mBitsLongest_any (A : Option Addr) (n c : Nat) (xs : List Bool) (w : World) (h : OS w w.heap.size A n xs) (hn : n ≤ 1099511627776) :
    Calls Tryd.prog 13 #[.slice A n c] w fun e w' => e = .returned (.int .i64 (Bm.longW xs)) ∧ Below w.heap.size w w' := by
  have hl := h.1
  by_cases h64 : n ≤ 64
  · have HF := Lib.hid (show Bm.longW xs = (Bm.bestT xs n : Int) by rw [Bm.longW, hl, if_pos h64, Bm.longN, hl])
    have h64' : decide ((64 : Int) < n) = false := decide_eq_false (by omega)
    go_enter Tryd.func13, Tryd.ntmps13
    go_wp2_with fail
    go_loopw [3, 4, 5] (fun b r i wr => ∃ k : Nat, k ≤ n ∧ i = .int .i64 k ∧ b = .int .i64 (Bm.bestT xs k) ∧ r = .int .i64 (Bm.runT xs k) ∧ wr = w) (fun _ _ i _ => n - (intOf i).toNat)
    case atStart => exact ⟨0, Nat.zero_le _, rfl, rfl, rfl, rfl⟩
    case round =>
      obtain ⟨k, hk, rfl, rfl, rfl, rfl⟩ := hrel
      by_cases hlt : k < n
      · obtain ⟨g, o, b, rfl, hg, hx, c1⟩ := h.at_ hlt
        have hlt' : (k : Int) < n := by omega
        have hb1 := Bm.bestT_le xs k
        have hr1 := Bm.runT_le xs k
        have HB := Lib.hid (show Bm.bestT xs (k + 1) = max (Bm.bestT xs k) (Bm.runT xs (k + 1)) from rfl)
        obtain ⟨B, hB⟩ : ∃ B, Bm.bestT xs k = B := ⟨_, rfl⟩
        obtain ⟨R, hR⟩ : ∃ R, Bm.runT xs k = R := ⟨_, rfl⟩
        rw [hB] at hb1 HB ⊢
        rw [hR] at hr1 ⊢
        cases b
        · have HR := Lib.hid (show Bm.runT xs (k + 1) = R + 1 by rw [Bm.runT, if_pos hx, hR])
          clear hx hB hR
          go_wp2_with fail
          go_roundw
          case rel => exact ⟨k + 1, by omega, by go_num, by rw [HB.out, HR.out]; congr 1; split <;> omega, by rw [HR.out]; go_num, trivial⟩
          case measure => simp [intOf]; omega
        · have HR := Lib.hid (show Bm.runT xs (k + 1) = 0 by rw [Bm.runT, if_neg (by rw [hx]; simp)])
          clear hx hB hR
          go_wp2_with fail
          go_roundw
          case rel => exact ⟨k + 1, by omega, by go_num, by rw [HB.out, HR.out]; congr 1; omega, by rw [HR.out]; rfl, trivial⟩
          case measure => simp [intOf]; omega
      · obtain rfl : k = n := by omega
        go_wp2_with fail
        go_ret
        exact ⟨by rw [HF.out]; rfl, Below.refl _ _⟩
  · have HF := Lib.hid (show Bm.longW xs = -1 by rw [Bm.longW, hl, if_neg h64])
    have h64' : (64 : Int) < n := by omega
    go_enter Tryd.func13, Tryd.ntmps13
    go_wp2_with fail
    go_ret
    exact ⟨by rw [HF.out]; rfl, Below.refl _ _⟩
end Go.Proofs.YtphcbjoafnffnaaDoor
