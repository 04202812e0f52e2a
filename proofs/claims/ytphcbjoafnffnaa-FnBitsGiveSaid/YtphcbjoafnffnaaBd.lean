/- What the model's BitsGive and BitsLongest return: for every slice of bools and all numbers. -/
import Derived.Test.YtphcbjoafnffnaaBc
namespace Go.Proofs.Ytphcbjoafnffnaa
open Go.RowKit

set_option maxHeartbeats 2000000 in
theorem mBitsGive_any (A : Option Addr) (n c : Nat) (xs : List Bool) (s m : Int) (w : World) (h : OS w w.heap.size A n xs) (hn : n ≤ 1099511627776) :
    Calls Try.prog 16 #[.slice A n c, .int .i64 s, .int .i64 m] w (GaveO2 w (Bm.chgW xs s m false) (Bm.chgOk xs s m false)) := by
  have hl := h.1
  have o0 := own_noneO w w.heap.size (Nat.le_refl _)
  have b0 : Below w.heap.size w (w.alloc (.cells #[] 4)) := (Below.refl _ _).alloc (Nat.le_refl _) _
  have r0 := h.below b0
  cases hm : (decide ((1 : Int) ≤ m) && decide (m ≤ 64))
  · have HF := Lib.hid (Bm.chgW_bad (xs := xs) (s := s) (m := m) (b := false) (by rw [Bm.okM, hm]; rfl))
    have HM := Lib.hid hm
    clear hm
    go_enter Try.func16, Try.ntmps16
    go_wp2_with fail
    refine (l1In_any _ _ _ _).mono ?_
    rw [HM.out]
    rintro e w' ⟨rfl, rfl⟩
    go_wp2_with fail
    go_ret2
    exact GaveO2.of o0 b0 HF.out.1.symm HF.out.2.symm
  · by_cases h64 : n ≤ 64
    · have ho : Bm.okM xs m = true := by rw [Bm.okM, hm, hl]; simpa using h64
      obtain ⟨⟨m1, m2⟩, _⟩ := Bm.okM_iff.1 ho
      obtain ⟨M, rfl⟩ := Int.eq_ofNat_of_zero_le (show 0 ≤ m by omega)
      have HM := Lib.hid hm
      have HO := Lib.hid ho
      have h64' : decide ((64 : Int) < n) = false := decide_eq_false (by omega)
      clear hm ho
      cases hs : (decide ((0 : Int) ≤ s) && decide (s ≤ (n : Int) - (M : Int)))
      · have HF := Lib.hid (Bm.chgW_no (b := false) (s := s) HO.out (Bm.canW_out (by rw [hl]; exact hs)))
        have HS := Lib.hid hs
        clear hs
        go_enter Try.func16, Try.ntmps16
        go_wp2_with fail
        refine (l1In_any _ _ _ _).mono ?_
        rw [HM.out]
        rintro e w' ⟨rfl, rfl⟩
        go_wp2_with fail
        refine (l1In_any _ _ _ _).mono ?_
        rw [HS.out]
        rintro e w' ⟨rfl, rfl⟩
        go_wp2_with fail
        go_loopw [8, 9] (fun k i wr => k = .bool false ∧ i = .int .i64 s ∧ wr = w) (fun _ _ _ => 0)
        case atStart => exact ⟨rfl, rfl, rfl⟩
        case round =>
          obtain ⟨rfl, rfl, rfl⟩ := hrel
          go_wp2_with (at_builtin; refine wpList_appendO rfl (.tmp 42) (.tmp 43) rfl wr.heap.size _ [] rfl o0 A n c wr.heap.size xs rfl r0 (by simp <;> omega) (by simp) ?_; intro v2 w2 o2 g2 s2)
          go_ret2
          exact GaveO2.of o2 (b0.grown g2 (by simp) (fun k hk => (World.ownsRow.lt o0 k hk).1)) (by rw [HF.out.1]; rfl) HF.out.2.symm
      · have hs2 := hs
        simp only [Bool.and_eq_true, decide_eq_true_eq] at hs2
        obtain ⟨S, rfl⟩ := Int.eq_ofNat_of_zero_le hs2.1
        have hSM : S + M ≤ n := by omega
        have HS := Lib.hid hs
        have HC := Lib.hid (Bm.canW_in (b := true) (by rw [hl]; exact hs))
        clear hs hs2
        go_enter Try.func16, Try.ntmps16
        go_wp2_with fail
        refine (l1In_any _ _ _ _).mono ?_
        rw [HM.out]
        rintro e w' ⟨rfl, rfl⟩
        go_wp2_with fail
        refine (l1In_any _ _ _ _).mono ?_
        rw [HS.out]
        rintro e w' ⟨rfl, rfl⟩
        go_wp2_with fail
        go_loopw [8, 9] (fun k i wr => ∃ (j : Nat) (ok : Bool), j ≤ M ∧ i = .int .i64 ((S + j : Nat) : Int) ∧ k = .bool ok ∧ Hid (if ok = true then Bm.runF xs S j true = true else Bm.runF xs S M true = false) ∧ wr = w) (fun _ i _ => S + M - (intOf i).toNat)
        case atStart => exact ⟨0, true, Nat.zero_le _, rfl, rfl, Lib.hid rfl, rfl⟩
        case round =>
          obtain ⟨j, ok, hj, rfl, rfl, HK, rfl⟩ := hrel
          cases ok
          · have HF := Lib.hid (Bm.chgW_no (b := false) (s := (S : Int)) HO.out (by rw [Bool.not_false, HC.out]; exact HK.out))
            go_wp2_with (at_builtin; refine wpList_appendO rfl (.tmp 42) (.tmp 43) rfl wr.heap.size _ [] rfl o0 A n c wr.heap.size xs rfl r0 (by simp <;> omega) (by simp) ?_; intro v2 w2 o2 g2 s2)
            go_ret2
            exact GaveO2.of o2 (b0.grown g2 (by simp) (fun k hk => (World.ownsRow.lt o0 k hk).1)) (by rw [HF.out.1]; rfl) HF.out.2.symm
          · by_cases hlt : j < M
            · obtain ⟨g, o, b, rfl, hg, hx, c1⟩ := h.at_ (k := S + j) (by omega)
              have HX := Lib.hid hx
              have t1 : ((S + j : Nat) : Int) < n := by omega
              have t2 : ((S + j : Nat) : Int) < (S : Int) + M := by omega
              clear hx o0 b0 r0
              cases b
              · have HN := Lib.hid (show (if false = true then Bm.runF xs S (j + 1) true = true else Bm.runF xs S M true = false) from Bm.runF_not (b := true) hlt HX.out (by simp))
                go_wp2_with fail
                go_roundw
                case rel => exact ⟨j + 1, false, by omega, by go_num, rfl, HN, trivial⟩
                case measure => simp [intOf]; omega
              · have HN := Lib.hid (show (if true = true then Bm.runF xs S (j + 1) true = true else Bm.runF xs S M true = false) from Bm.runF_succ HK.out HX.out)
                go_wp2_with fail
                go_roundw
                case rel => exact ⟨j + 1, true, by omega, by go_num, rfl, HN, trivial⟩
                case measure => simp [intOf]; omega
            · obtain rfl : j = M := by omega
              have t2 : decide (((S + j : Nat) : Int) < (S : Int) + j) = false := decide_eq_false (by omega)
              have HF := Lib.hid (Bm.chg_yes (b := false) (by rw [hl]; exact h64) (show 1 ≤ j by omega) (by rw [hl]; exact hSM) HK.out)
              clear o0 b0 r0
              go_wp2_with fail
              refine (l5Set_any _ _ _ xs _ _ _ _ h (by omega) (by omega) hSM).mono ?_
              rintro e w2 ⟨v2, rfl, o2, b2⟩
              go_wp2_with fail
              go_ret2
              exact GaveO2.of o2 b2 HF.out.2.symm HF.out.1.symm
    · have HF := Lib.hid (Bm.chgW_bad (xs := xs) (s := s) (m := m) (b := false) (by rw [Bm.okM, hm, hl]; simpa using h64))
      have HM := Lib.hid hm
      have h64' : (64 : Int) < n := by omega
      clear hm
      go_enter Try.func16, Try.ntmps16
      go_wp2_with fail
      refine (l1In_any _ _ _ _).mono ?_
      rw [HM.out]
      rintro e w' ⟨rfl, rfl⟩
      go_wp2_with fail
      go_ret2
      exact GaveO2.of o0 b0 HF.out.1.symm HF.out.2.symm

set_option maxHeartbeats 1000000 in
theorem mBitsLongest_any (A : Option Addr) (n c : Nat) (xs : List Bool) (w : World) (h : OS w w.heap.size A n xs) (hn : n ≤ 1099511627776) :
    Calls Try.prog 21 #[.slice A n c] w fun e w' => e = .returned (.int .i64 (Bm.longW xs)) ∧ Below w.heap.size w w' := by
  have hl := h.1
  by_cases h64 : n ≤ 64
  · have HF := Lib.hid (show Bm.longW xs = (Bm.bestT xs n : Int) by rw [Bm.longW, hl, if_pos h64, Bm.longN, hl])
    have h64' : decide ((64 : Int) < n) = false := decide_eq_false (by omega)
    go_enter Try.func21, Try.ntmps21
    go_wp2_with fail
    go_loopw [3, 4, 5] (fun b r i wr => ∃ k : Nat, k ≤ n ∧ i = .int .i64 k ∧ b = .int .i64 (Bm.bestT xs k) ∧ r = .int .i64 (Bm.runT xs k) ∧ wr = w) (fun _ _ i _ => n - (intOf i).toNat)
    case atStart => exact ⟨0, Nat.zero_le _, rfl, rfl, rfl, rfl⟩
    case round =>
      obtain ⟨k, hk, rfl, rfl, rfl, rfl⟩ := hrel
      by_cases hlt : k < n
      · obtain ⟨g, o, b, rfl, hg, hx, c1⟩ := h.at_ hlt
        have hlt' : (k : Int) < n := by omega
        have hb1 := Bm.bestT_le xs k
        have hr1 := Bm.runT_le xs k
        have HB := Lib.hid (show Bm.bestT xs (k + 1) = max (Bm.bestT xs k) (Bm.runT xs (k + 1)) from rfl)
        obtain ⟨B, hB⟩ : ∃ B, Bm.bestT xs k = B := ⟨_, rfl⟩
        obtain ⟨R, hR⟩ : ∃ R, Bm.runT xs k = R := ⟨_, rfl⟩
        rw [hB] at hb1 HB ⊢
        rw [hR] at hr1 ⊢
        cases b
        · have HR := Lib.hid (show Bm.runT xs (k + 1) = R + 1 by rw [Bm.runT, if_pos hx, hR])
          clear hx hB hR
          go_wp2_with fail
          go_roundw
          case rel => exact ⟨k + 1, by omega, by go_num, by rw [HB.out, HR.out]; congr 1; split <;> omega, by rw [HR.out]; go_num, trivial⟩
          case measure => simp [intOf]; omega
        · have HR := Lib.hid (show Bm.runT xs (k + 1) = 0 by rw [Bm.runT, if_neg (by rw [hx]; simp)])
          clear hx hB hR
          go_wp2_with fail
          go_roundw
          case rel => exact ⟨k + 1, by omega, by go_num, by rw [HB.out, HR.out]; congr 1; omega, by rw [HR.out]; rfl, trivial⟩
          case measure => simp [intOf]; omega
      · obtain rfl : k = n := by omega
        go_wp2_with fail
        go_ret
        exact ⟨by rw [HF.out]; rfl, Below.refl _ _⟩
  · have HF := Lib.hid (show Bm.longW xs = -1 by rw [Bm.longW, hl, if_neg h64])
    have h64' : (64 : Int) < n := by omega
    go_enter Try.func21, Try.ntmps21
    go_wp2_with fail
    go_ret
    exact ⟨by rw [HF.out]; rfl, Below.refl _ _⟩
end Go.Proofs.Ytphcbjoafnffnaa
