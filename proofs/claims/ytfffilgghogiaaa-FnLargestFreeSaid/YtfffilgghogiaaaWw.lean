/- The laws of LargestFree (P18), FirstFit (P20) and BestFit (P21) return true: for every list of bytes. -/
import Derived.Test.YtfffilgghogiaaaWv
import Derived.Test.YtfffilgghogiaaaWt
import Derived.Test.YtfffilgghogiaaaFits4
namespace Go.Proofs.Ytfffilgghogiaaa
open Go.RowKit

set_option maxHeartbeats 2000000 in
theorem largestFreeLaw_walk (A : Option Addr) (n c : Nat) (w : World) (h : Bytes w w.heap.size A n) (hc : n ≤ c) (hn : n ≤ 9223372036854775807) :
    Calls Try.prog 3 #[.slice A n c] w fun e w' => e = .returned (.bool true) ∧ Below w.heap.size w w' := by
  by_cases hs : n ≤ 1048576
  · have hs' : decide ((1048576 : Int) < (n : Int)) = false := by simp; omega
    go_enter Try.func3, Try.ntmps3
    go_wp2_with fail
    refine (drawLargestFree_any _ _ _ _ h hc hn).mono ?_
    rintro e w1 ⟨v, xs, T, rfl, o1, ha, l1, l2, t1, t2, b1⟩
    obtain ⟨A1, c1, rfl, f1⟩ := o1.form
    clear f1
    have HA := Lib.hid ha
    clear ha
    go_wp2_with fail
    refine (largestFree_any _ _ _ xs _ _ (o1.reads HA.out) (by omega)).mono ?_
    rintro e w2 ⟨rfl, b2⟩
    have bb2 := b1.trans (b2.mono b1.size)
    have o2 := o1.below b2 (Nat.le_refl _)
    go_wp2_with fail
    refine (mLargestFree_any _ _ _ xs _ _ (o2.reads HA.out) (by omega)).mono ?_
    rintro e w3 ⟨rfl, b3⟩
    have bb3 := bb2.trans (b3.mono bb2.size)
    have o3 := o2.below b3 (Nat.le_refl _)
    clear o1 o2 b1 b2 b3 bb2
    cases hv : Bks.validB xs T
    · have e1 : Bks.largeW xs T = -1 := by simp [Bks.largeW, hv]
      rw [e1]
      clear e1 hv
      go_wp2_with fail
      refine (alive_any _).mono ?_
      rintro e w4 ⟨rfl, b4⟩
      go_wp2_with fail
      go_ret
      exact ⟨rfl, bb3.trans (b4.mono bb3.size)⟩
    · have e1 : Bks.largeW xs T = Bks.maxTo xs xs.length := by simp [Bks.largeW, hv]
      obtain ⟨q1, q2, q3, q4, q5⟩ := Bks.free_range hv xs.length (Nat.le_refl _)
      obtain ⟨g1, g2⟩ := Bks.first_largest hv
      rw [e1]
      have q6 : Bks.maxTo xs xs.length ≤ 256 := by omega
      generalize Bks.maxTo xs xs.length = M at q3 q4 q6 g1 g2
      have HG2 := Lib.hid g2
      clear e1 hv g2
      by_cases hM : M = 0
      · subst hM
        have HG3 := Lib.hid (show Bks.firstW xs T 1 = -1 from HG2.out)
        go_wp2_with fail
        refine (firstFit_any _ _ _ xs _ _ _ (o3.reads HA.out) (by omega)).mono ?_
        rw [HG3.out]
        rintro e w4 ⟨rfl, b4⟩
        go_wp2_with fail
        go_ret
        exact ⟨rfl, bb3.trans (b4.mono bb3.size)⟩
      · have g1' := g1.resolve_left hM
        have hM' : (M == 0) = false := by rw [beq_eq_false_iff_ne]; exact hM
        clear g1 hM
        obtain ⟨F, hF⟩ : ∃ F, Bks.firstW xs T M = F := ⟨_, rfl⟩
        rw [hF] at g1'
        have HF := Lib.hid hF
        clear hF
        go_wp2_with fail
        refine (firstFit_any _ _ _ xs _ _ _ (o3.reads HA.out) (by omega)).mono ?_
        rw [HF.out]
        rintro e w4 ⟨rfl, b4⟩
        have bb4 := bb3.trans (b4.mono bb3.size)
        have o4 := o3.below b4 (Nat.le_refl _)
        go_wp2_with fail
        refine (firstFit_any _ _ _ xs _ _ _ (o4.reads HA.out) (by omega)).mono ?_
        rw [HG2.out]
        rintro e w5 ⟨rfl, b5⟩
        go_wp2_with fail
        go_ret
        exact ⟨rfl, bb4.trans (b5.mono bb4.size)⟩
  · go_enter Try.func3, Try.ntmps3
    go_wp2
    go_ret
    exact ⟨rfl, Below.refl _ _⟩

set_option maxRecDepth 100000 in
set_option maxHeartbeats 2000000 in
theorem firstFitLaw_walk (A : Option Addr) (n c : Nat) (w : World) (h : Bytes w w.heap.size A n) (hc : n ≤ c) (hn : n ≤ 9223372036854775807) :
    Calls Try.prog 4 #[.slice A n c] w fun e w' => e = .returned (.bool true) ∧ Below w.heap.size w w' := by
  by_cases hs : n ≤ 1048576
  · have hs' : decide ((1048576 : Int) < (n : Int)) = false := by simp; omega
    go_enter Try.func4, Try.ntmps4
    go_wp2_with fail
    refine (drawFirstFit_any _ _ _ _ h hc hn).mono ?_
    rintro e w1 ⟨v, xs, T, q, rfl, o1, ha, l1, l2, t1, t2, q1, q2, b1⟩
    obtain ⟨A1, c1, rfl, f1⟩ := o1.form
    clear f1
    have HA := Lib.hid ha
    clear ha
    obtain ⟨F, hF⟩ : ∃ F, Bks.firstW xs T q = F := ⟨_, rfl⟩
    have HF := Lib.hid hF
    clear hF
    go_wp2_with fail
    refine (firstFit_any _ _ _ xs _ _ _ (o1.reads HA.out) (by omega)).mono ?_
    rw [HF.out]
    rintro e w2 ⟨rfl, b2⟩
    have bb2 := b1.trans (b2.mono b1.size)
    have o2 := o1.below b2 (Nat.le_refl _)
    go_wp2_with fail
    refine (mFirstFit_any _ _ _ xs _ _ _ (o2.reads HA.out) (by omega)).mono ?_
    rw [HF.out]
    rintro e w3 ⟨rfl, b3⟩
    have bb3 := bb2.trans (b3.mono bb2.size)
    have o3 := o2.below b3 (Nat.le_refl _)
    clear o1 o2 b1 b2 b3 bb2
    go_wp2_with fail
    refine (mBlocksValid_any _ _ _ xs _ _ (o3.reads HA.out) (by omega)).mono ?_
    rintro e w4 ⟨rfl, b4⟩
    have bb4 := bb3.trans (b4.mono bb3.size)
    have o4 := o3.below b4 (Nat.le_refl _)
    clear o3 b4 bb3
    by_cases hg : Bks.validB xs T = true ∧ 1 ≤ q ∧ q ≤ 256
    · obtain ⟨hv, s1, s2⟩ := hg
      rw [hv]
      have HFI := Lib.hid (show F = Bks.firstIdx xs q 0 by rw [← HF.out, Bks.firstW, if_pos ⟨hv, s1, s2⟩])
      have hR := o4.reads HA.out
      have HR := Lib.hid hR
      clear hv hR
      go_wp2_with fail
      go_loop [7] (fun i => ∃ k : Nat, k ≤ xs.length ∧ i = .int .i64 k ∧ Hid (∀ j y, j < k → xs[j]? = some y → Bks.fits q y = false)) (fun i => xs.length - (intOf i).toNat)
      case atStart => exact ⟨0, Nat.zero_le _, rfl, Lib.hid (fun j y hj => by omega)⟩
      case round =>
        obtain ⟨k, hk, rfl, hpre⟩ := hrel
        by_cases hlt : k < xs.length
        · obtain ⟨g, o, x, rfl, hgb, hx, ⟨i1, i2⟩, ⟨i3, i4⟩, c1, c2, c3⟩ := HR.out.at_ hlt
          have HX := Lib.hid hx
          clear hx c1
          cases hu : x.u
          · rw [hu] at c3
            have HU := Lib.hid hu
            clear hu
            by_cases hz : q ≤ x.z
            · have hFk : (F == (k : Int)) = true := by
                rw [beq_iff_eq, HFI.out, Bks.firstIdx_some xs q 0 k x HX.out (by rw [Bks.fits_iff]; exact ⟨HU.out, hz⟩) hpre.out]
                simp
              go_wp2
              go_ret
              exact ⟨rfl, bb4⟩
            · go_wp2
              go_round
              case rel => exact ⟨k + 1, by omega, by go_num, Lib.hid (fun j y hj hy => by
                rcases Nat.lt_or_ge j k with e | e
                · exact hpre.out j y e hy
                · obtain rfl : j = k := by omega
                  obtain rfl : y = x := Option.some.inj (hy.symm.trans HX.out)
                  cases hf : Bks.fits q y
                  · rfl
                  · rw [Bks.fits_iff] at hf
                    omega)⟩
              case measure => simp [intOf]; omega
          · rw [hu] at c3
            have HU := Lib.hid hu
            clear hu
            go_wp2
            go_round
            case rel => exact ⟨k + 1, by omega, by go_num, Lib.hid (fun j y hj hy => by
                rcases Nat.lt_or_ge j k with e | e
                · exact hpre.out j y e hy
                · obtain rfl : j = k := by omega
                  obtain rfl : y = x := Option.some.inj (hy.symm.trans HX.out)
                  cases hf : Bks.fits q y
                  · rfl
                  · rw [Bks.fits_iff, HU.out] at hf
                    cases hf.1)⟩
            case measure => simp [intOf]; omega
        · have hFk : (F == -1) = true := by
            rw [beq_iff_eq, HFI.out]
            exact Bks.firstIdx_none xs q 0 (fun j y hy => hpre.out j y (by have := (List.getElem?_eq_some_iff.1 hy).1; omega) hy)
          go_wp2
          go_ret
          exact ⟨rfl, bb4⟩
    · obtain rfl : F = -1 := by rw [← HF.out]; exact Bks.firstW_not hg
      cases hv : Bks.validB xs T
      · clear hg hv
        go_wp2_with fail
        refine (alive_any _).mono ?_
        rintro e w5 ⟨rfl, b5⟩
        go_wp2_with fail
        go_ret
        exact ⟨rfl, bb4.trans (b5.mono bb4.size)⟩
      · by_cases hq : q < 1
        · clear hg hv
          go_wp2_with fail
          refine (alive_any _).mono ?_
          rintro e w5 ⟨rfl, b5⟩
          go_wp2_with fail
          go_ret
          exact ⟨rfl, bb4.trans (b5.mono bb4.size)⟩
        · have hq2 : 256 < q := by
            rcases Int.lt_or_le 256 q with e | e
            · exact e
            · exact absurd ⟨hv, by omega, e⟩ hg
          clear hg hv
          go_wp2_with fail
          refine (alive_any _).mono ?_
          rintro e w5 ⟨rfl, b5⟩
          go_wp2_with fail
          go_ret
          exact ⟨rfl, bb4.trans (b5.mono bb4.size)⟩
  · go_enter Try.func4, Try.ntmps4
    go_wp2
    go_ret
    exact ⟨rfl, Below.refl _ _⟩

/-- what the best fit is: a number, or none -/
theorem best_cases (xs : List Bl) (t size : Int) : (Bks.bestW xs t size = -1 ∧ Bks.firstW xs t size = -1) ∨
    ∃ (b : Nat) (y : Bl), Bks.bestW xs t size = b ∧ xs[b]? = some y ∧ y.u = false ∧ size ≤ y.z ∧ 0 ≤ Bks.firstW xs t size ∧ Bks.validB xs t = true ∧ 1 ≤ size ∧ size ≤ 256 ∧ Bks.IsBest xs size b := by
  by_cases hg : Bks.validB xs t = true ∧ 1 ≤ size ∧ size ≤ 256
  · rcases Bks.best_or xs size with hno | ⟨b, hb⟩
    · left
      refine ⟨Bks.bestW_none hno, ?_⟩
      rw [Bks.firstW, if_pos hg, Bks.firstIdx_none xs size 0 hno]
    · right
      have hb' := hb
      obtain ⟨y, hy, hf, _⟩ := hb'
      rw [Bks.fits_iff] at hf
      refine ⟨b, y, Bks.bestW_some hg hb, hy, hf.1, hf.2, ?_, hg.1, hg.2.1, hg.2.2, hb⟩
      rw [Bks.firstW, if_pos hg]
      rcases Bks.first_or xs size with hno | ⟨k, x, hx, hfx, hpre⟩
      · have := hno b y hy
        rw [(Bks.fits_iff size y).2 hf] at this
        cases this
      · rw [Bks.firstIdx_some xs size 0 k x hx hfx hpre]
        omega
  · exact .inl ⟨Bks.bestW_not hg, Bks.firstW_not hg⟩

set_option maxRecDepth 100000 in
set_option maxHeartbeats 4000000 in
theorem bestFitLaw_walk (A : Option Addr) (n c : Nat) (w : World) (h : Bytes w w.heap.size A n) (hc : n ≤ c) (hn : n ≤ 9223372036854775807) :
    Calls Try.prog 5 #[.slice A n c] w fun e w' => e = .returned (.bool true) ∧ Below w.heap.size w w' := by
  by_cases hs : n ≤ 1048576
  · have hs' : decide ((1048576 : Int) < (n : Int)) = false := by simp; omega
    go_enter Try.func5, Try.ntmps5
    go_wp2_with fail
    refine (drawBestFit_any _ _ _ _ h hc hn).mono ?_
    rintro e w1 ⟨v, xs, T, q, rfl, o1, ha, l1, l2, t1, t2, q1, q2, b1⟩
    obtain ⟨A1, c1, rfl, f1⟩ := o1.form
    clear f1
    have HA := Lib.hid ha
    clear ha
    obtain ⟨B, hB⟩ : ∃ B, Bks.bestW xs T q = B := ⟨_, rfl⟩
    obtain ⟨F, hF⟩ : ∃ F, Bks.firstW xs T q = F := ⟨_, rfl⟩
    have hcases := best_cases xs T q
    rw [hB, hF] at hcases
    have HCA := Lib.hid hcases
    have HB := Lib.hid hB
    have HF := Lib.hid hF
    clear hB hF hcases
    go_wp2_with fail
    refine (bestFit_any _ _ _ xs _ _ _ (o1.reads HA.out) (by omega)).mono ?_
    rw [HB.out]
    rintro e w2 ⟨rfl, b2⟩
    have bb2 := b1.trans (b2.mono b1.size)
    have o2 := o1.below b2 (Nat.le_refl _)
    go_wp2_with fail
    refine (mBestFit_any _ _ _ xs _ _ _ (o2.reads HA.out) (by omega)).mono ?_
    rw [HB.out]
    rintro e w3 ⟨rfl, b3⟩
    have bb3 := bb2.trans (b3.mono bb2.size)
    have o3 := o2.below b3 (Nat.le_refl _)
    clear o1 o2 b1 b2 b3 bb2
    go_wp2_with fail
    refine (firstFit_any _ _ _ xs _ _ _ (o3.reads HA.out) (by omega)).mono ?_
    rw [HF.out]
    rintro e w4 ⟨rfl, b4⟩
    have bb4 := bb3.trans (b4.mono bb3.size)
    have o4 := o3.below b4 (Nat.le_refl _)
    clear o3 b4 bb3
    rcases HCA.out with ⟨rfl, rfl⟩ | ⟨b, y, rfl, hy, hyu, hyz, hF0, hv, s1, s2, hbest⟩
    · go_wp2_with fail
      refine (alive_any _).mono ?_
      rintro e w5 ⟨rfl, b5⟩
      go_wp2_with fail
      go_ret
      exact ⟨rfl, bb4.trans (b5.mono bb4.size)⟩
    · have hbl : b < xs.length := (List.getElem?_eq_some_iff.1 hy).1
      have hR := o4.reads HA.out
      obtain ⟨g, o, y', rfl, hgb, hy', _, ⟨i3, i4⟩, _, d2, d3⟩ := hR.at_ hbl
      obtain rfl : y' = y := Option.some.inj (hy'.symm.trans hy)
      rw [hyu] at d3
      have hbe : ∀ (k : Nat) (x : Bl), xs[k]? = some x → Bks.fits q x = true → y'.z < x.z ∨ (y'.z = x.z ∧ b ≤ k) := by
        obtain ⟨z, hz, _, hall⟩ := hbest
        obtain rfl : z = y' := Option.some.inj (hz.symm.trans hy)
        exact hall
      have HBEST := Lib.hid hbe
      have HY := Lib.hid hy
      have HR := Lib.hid hR
      have hbl' : (b : Int) < xs.length := by omega
      clear hv hR hy hy' hbest hyu HB hbe
      have w1' : decide ((b : Int) < 0) = false := decide_eq_false (by omega)
      have w2' : decide (xs.length ≤ b) = false := decide_eq_false (by omega)
      have w3' : decide (F < 0) = false := decide_eq_false (by omega)
      have w4' : decide (y'.z < q) = false := decide_eq_false (by omega)
      go_wp2_with fail
      clear d2 d3 w1' w2' w3' w4'
      go_loopw [8] (fun i wr => ∃ k : Nat, k ≤ xs.length ∧ i = .int .i64 k ∧ Below w4.heap.size w4 wr) (fun i _ => xs.length - (intOf i).toNat)
      case atStart => exact ⟨0, Nat.zero_le _, rfl, Below.refl _ _⟩
      case round =>
        obtain ⟨k, hk, rfl, hb⟩ := hrel
        by_cases hlt : k < xs.length
        · obtain ⟨g1, o1, x, e1, _, hx, _, _, c1, c2, c3⟩ := (HR.out.below hb).at_ hlt
          injection e1 with e1
          injection e1 with ea eb
          subst ea eb
          obtain ⟨g1, o1, y1, e1, _, hy1, _, _, d1, d2, d3⟩ := (HR.out.below hb).at_ hbl
          injection e1 with e1
          injection e1 with ea eb
          subst ea eb
          obtain rfl : y1 = y' := Option.some.inj (hy1.symm.trans HY.out)
          have HBK := Lib.hid (HBEST.out k x hx)
          have HX := Lib.hid hx
          have hlt' : (k : Int) < xs.length := by omega
          clear hx hy1 c1 d1 d3
          cases hu : x.u
          · rw [hu] at c3
            by_cases hz : q ≤ x.z
            · have hbk := HBK.out (by rw [Bks.fits_iff]; exact ⟨hu, hz⟩)
              have m1 : decide (x.z < y1.z) = false := decide_eq_false (by omega)
              clear hu
              by_cases he : x.z = y1.z
              · have m2 : (x.z == y1.z) = true := by rw [beq_iff_eq]; exact he
                have m3 : decide ((k : Int) < (b : Int)) = false := decide_eq_false (by omega)
                have m4 : decide (k < b) = false := decide_eq_false (by omega)
                clear he hbk
                go_wp2_with fail
                go_quiet (fail)
                go_wp2
                go_roundw
                case rel => exact ⟨k + 1, by omega, by go_num, below_drewN hb _⟩
                case measure => simp [intOf]; omega
              · have m2 : (x.z == y1.z) = false := by rw [beq_eq_false_iff_ne]; exact he
                clear he hbk
                go_wp2_with fail
                go_quiet (fail)
                go_wp2
                go_roundw
                case rel => exact ⟨k + 1, by omega, by go_num, below_drewN hb _⟩
                case measure => simp [intOf]; omega
            · have hz' : decide (q ≤ x.z) = false := decide_eq_false hz
              clear hz hu
              go_wp2_with fail
              go_quiet (fail)
              go_wp2
              go_roundw
              case rel => exact ⟨k + 1, by omega, by go_num, below_drewN hb _⟩
              case measure => simp [intOf]; omega
          · rw [hu] at c3
            clear hu
            go_wp2_with fail
            go_quiet (fail)
            go_wp2
            go_roundw
            case rel => exact ⟨k + 1, by omega, by go_num, below_drewN hb _⟩
            case measure => simp [intOf]; omega
        · go_wp2
          go_ret
          exact ⟨rfl, bb4.trans (hb.mono bb4.size)⟩
  · go_enter Try.func5, Try.ntmps5
    go_wp2
    go_ret
    exact ⟨rfl, Below.refl _ _⟩
end Go.Proofs.Ytfffilgghogiaaa
