/- The laws of bitmaps (P35, P36, P37, P38, P116) return true: for every list of bytes. -/
import Derived.Test.YtphcbjoafnffnaaBe
import Derived.Test.YtphcbjoafnffnaaBf
import Derived.StillTailTactics
namespace Go.Proofs.Ytphcbjoafnffnaa
open Go.RowKit

set_option maxRecDepth 100000 in
set_option maxHeartbeats 4000000 in
theorem bitsTakeLaw_walk (A : Option Addr) (n c : Nat) (w : World) (h : Bytes w w.heap.size A n) (hc : n ≤ c) (hn : n ≤ 9223372036854775807) :
    Calls Try.prog 3 #[.slice A n c] w fun e w' => e = .returned (.bool true) ∧ Below w.heap.size w w' := by
  by_cases hs : n ≤ 1048576
  · have hs' : decide ((1048576 : Int) < (n : Int)) = false := by simp; omega
    go_enter Try.func3, Try.ntmps3
    go_wp2_with fail
    refine (drawBitsTake_any _ _ _ _ h hc hn).mono ?_
    rintro e w1 ⟨A1, n1, c1, xs, s, m, rfl, o1, hcap, hn65, s0, s1, m0, m1, b1⟩
    have hlx := o1.1
    subst hlx
    obtain ⟨ys, hys⟩ : ∃ ys, Bm.chgW xs s m true = ys := ⟨_, rfl⟩
    obtain ⟨ok, hok⟩ : ∃ ok, Bm.chgOk xs s m true = ok := ⟨_, rfl⟩
    have HCA := Lib.hid (Bm.chg_cases xs s m true)
    have hln := Bm.chg_len xs s m true
    rw [hys, hok] at HCA
    rw [hys] at hln
    have HY := Lib.hid hys
    have HO := Lib.hid hok
    clear hys hok
    go_wp2_with fail
    refine (bitsTake_any _ _ _ xs _ _ _ o1 (by omega) hcap).mono ?_
    rw [HY.out, HO.out]
    rintro e w2 ⟨v2, rfl, p2, b2⟩
    have bb2 := b1.trans (b2.mono b1.size)
    have o2 := o1.up b2
    clear o1
    go_wp2_with fail
    refine (mBitsTake_any _ _ _ xs _ _ _ o2 (by omega)).mono ?_
    rw [HY.out, HO.out]
    rintro e w3 ⟨v3, rfl, p3, b3⟩
    have bb3 := bb2.trans (b3.mono bb2.size)
    have o3 := o2.up b3
    have p2 := p2.below b3 (Nat.le_refl _)
    obtain ⟨A2, c2, rfl, f2⟩ := p2.form
    obtain ⟨A3, c3, rfl, f3⟩ := p3.form
    have hcap2 := p2.cap.2
    clear f2 f3 o2
    go_wp2_with fail
    refine (sameFlags_any _ _ _ _ _ _ ys ys _ p2.reads p3.reads (by omega) (by omega)).mono ?_
    rw [decide_eq_true rfl]
    rintro e w4 ⟨rfl, b4⟩
    have bb4 := bb3.trans (b4.mono bb3.size)
    have o4 := o3.up b4
    have p4 := p2.below b4 (Nat.le_refl _)
    clear o3 p2 p3 b2 b3 b4
    rcases HCA.out with ⟨rfl, rfl | rfl⟩ | ⟨rfl, hokM, S, M, rfl, rfl, hM1, hM2, hSM, hrun, rfl⟩
    · go_wp2_with fail
      refine (alive_any _).mono ?_
      rintro e w5 ⟨rfl, b5⟩
      go_wp2_with fail
      go_ret
      exact ⟨rfl, bb4.trans (b5.mono bb4.size)⟩
    · by_cases hy0 : ys.length = 0
      · have hne : ((ys.length : Int) == 0) = true := by rw [beq_iff_eq]; omega
        clear hy0
        go_wp2_with fail
        refine (alive_any _).mono ?_
        rintro e w5 ⟨rfl, b5⟩
        go_wp2_with fail
        go_ret
        exact ⟨rfl, bb4.trans (b5.mono bb4.size)⟩
      · have hne : ((ys.length : Int) == 0) = false := by rw [beq_eq_false_iff_ne]; omega
        clear hy0
        go_wp2_with fail
        refine (sameFlags_any _ _ _ _ _ _ ys ys _ p4.reads o4 (by omega) (by omega)).mono ?_
        rw [decide_eq_true rfl]
        rintro e w5 ⟨rfl, b5⟩
        have bb5 := bb4.trans (b5.mono bb4.size)
        go_wp2_with fail
        refine (alive_any _).mono ?_
        rintro e w6 ⟨rfl, b6⟩
        go_wp2_with fail
        go_ret
        exact ⟨rfl, bb5.trans (b6.mono bb5.size)⟩
    · by_cases h64 : xs.length ≤ 64
      · obtain ⟨g1, g2, g3, g4⟩ := Bm.chg_law h64 hM1 hSM hrun
        obtain ⟨zs, hzs⟩ : ∃ zs, Bm.setR xs S M true = zs := ⟨_, rfl⟩
        rw [hzs] at g1 g2 g3 g4 p4 hln hcap2 ⊢
        have G1 := Lib.hid (show Bm.chgOk zs S M false = true from g1)
        have G2 := Lib.hid (show Bm.chgW zs S M false = xs from g2)
        have G3 := Lib.hid g3
        have G4 := Lib.hid g4
        have hzl : zs.length ≤ 65 := by omega
        clear g1 g2 g3 g4 hzs hrun hln
        go_wp2_with fail
        refine (bitsGive_any _ _ _ zs _ _ _ p4.reads (by omega) hcap2).mono ?_
        rw [G1.out, G2.out]
        rintro e w5 ⟨v5, rfl, p5, b5⟩
        have bb5 := bb4.trans (b5.mono bb4.size)
        have o5 := o4.up b5
        have p6 := p4.below b5 (Nat.le_refl _)
        obtain ⟨A5, c5, rfl, f5⟩ := p5.form
        clear f5 o4 p4 b5
        go_wp2_with fail
        refine (bitsTake_any _ _ _ zs _ _ _ p6.reads (by omega) hcap2).mono ?_
        rw [G3.out]
        rintro e w6 ⟨v6, rfl, p7, b6⟩
        have bb6 := bb5.trans (b6.mono bb5.size)
        have o6 := o5.up b6
        have p5 := p5.below b6 (Nat.le_refl _)
        clear p6 p7 b6 o5
        go_wp2_with fail
        refine (sameFlags_any _ _ _ _ _ _ xs xs _ p5.reads o6 (by omega) (by omega)).mono ?_
        rw [decide_eq_true rfl]
        rintro e w7 ⟨rfl, b7⟩
        have hle : ((zs.length : Int) == xs.length) = true := by rw [beq_iff_eq, G4.out]
        go_wp2_with fail
        go_ret
        exact ⟨rfl, bb6.trans (b7.mono bb6.size)⟩
      · exact absurd (Bm.okM_iff.1 hokM).2 h64
  · go_enter Try.func3, Try.ntmps3
    go_wp2
    go_ret
    exact ⟨rfl, Below.refl _ _⟩

set_option maxRecDepth 100000 in
set_option maxHeartbeats 4000000 in
theorem bitsGiveLaw_walk (A : Option Addr) (n c : Nat) (w : World) (h : Bytes w w.heap.size A n) (hc : n ≤ c) (hn : n ≤ 9223372036854775807) :
    Calls Try.prog 4 #[.slice A n c] w fun e w' => e = .returned (.bool true) ∧ Below w.heap.size w w' := by
  by_cases hs : n ≤ 1048576
  · have hs' : decide ((1048576 : Int) < (n : Int)) = false := by simp; omega
    go_enter Try.func4, Try.ntmps4
    go_wp2_with fail
    refine (drawBitsGive_any _ _ _ _ h hc hn).mono ?_
    rintro e w1 ⟨A1, n1, c1, xs, s, m, rfl, o1, hcap, hn65, s0, s1, m0, m1, b1⟩
    have hlx := o1.1
    subst hlx
    obtain ⟨ys, hys⟩ : ∃ ys, Bm.chgW xs s m false = ys := ⟨_, rfl⟩
    obtain ⟨ok, hok⟩ : ∃ ok, Bm.chgOk xs s m false = ok := ⟨_, rfl⟩
    have HCA := Lib.hid (Bm.chg_cases xs s m false)
    have hln := Bm.chg_len xs s m false
    rw [hys, hok] at HCA
    rw [hys] at hln
    have HY := Lib.hid hys
    have HO := Lib.hid hok
    clear hys hok
    go_wp2_with fail
    refine (bitsGive_any _ _ _ xs _ _ _ o1 (by omega) hcap).mono ?_
    rw [HY.out, HO.out]
    rintro e w2 ⟨v2, rfl, p2, b2⟩
    have bb2 := b1.trans (b2.mono b1.size)
    have o2 := o1.up b2
    clear o1
    go_wp2_with fail
    refine (mBitsGive_any _ _ _ xs _ _ _ o2 (by omega)).mono ?_
    rw [HY.out, HO.out]
    rintro e w3 ⟨v3, rfl, p3, b3⟩
    have bb3 := bb2.trans (b3.mono bb2.size)
    have o3 := o2.up b3
    have p2 := p2.below b3 (Nat.le_refl _)
    obtain ⟨A2, c2, rfl, f2⟩ := p2.form
    obtain ⟨A3, c3, rfl, f3⟩ := p3.form
    have hcap2 := p2.cap.2
    clear f2 f3 o2
    go_wp2_with fail
    refine (sameFlags_any _ _ _ _ _ _ ys ys _ p2.reads p3.reads (by omega) (by omega)).mono ?_
    rw [decide_eq_true rfl]
    rintro e w4 ⟨rfl, b4⟩
    have bb4 := bb3.trans (b4.mono bb3.size)
    have o4 := o3.up b4
    have p4 := p2.below b4 (Nat.le_refl _)
    clear o3 p2 p3 b2 b3 b4
    rcases HCA.out with ⟨rfl, rfl | rfl⟩ | ⟨rfl, hokM, S, M, rfl, rfl, hM1, hM2, hSM, hrun, rfl⟩
    · go_wp2_with fail
      refine (alive_any _).mono ?_
      rintro e w5 ⟨rfl, b5⟩
      go_wp2_with fail
      go_ret
      exact ⟨rfl, bb4.trans (b5.mono bb4.size)⟩
    · by_cases hy0 : ys.length = 0
      · have hne : ((ys.length : Int) == 0) = true := by rw [beq_iff_eq]; omega
        clear hy0
        go_wp2_with fail
        refine (alive_any _).mono ?_
        rintro e w5 ⟨rfl, b5⟩
        go_wp2_with fail
        go_ret
        exact ⟨rfl, bb4.trans (b5.mono bb4.size)⟩
      · have hne : ((ys.length : Int) == 0) = false := by rw [beq_eq_false_iff_ne]; omega
        clear hy0
        go_wp2_with fail
        refine (sameFlags_any _ _ _ _ _ _ ys ys _ p4.reads o4 (by omega) (by omega)).mono ?_
        rw [decide_eq_true rfl]
        rintro e w5 ⟨rfl, b5⟩
        have bb5 := bb4.trans (b5.mono bb4.size)
        go_wp2_with fail
        refine (alive_any _).mono ?_
        rintro e w6 ⟨rfl, b6⟩
        go_wp2_with fail
        go_ret
        exact ⟨rfl, bb5.trans (b6.mono bb5.size)⟩
    · by_cases h64 : xs.length ≤ 64
      · obtain ⟨g1, g2, g3, g4⟩ := Bm.chg_law h64 hM1 hSM hrun
        obtain ⟨zs, hzs⟩ : ∃ zs, Bm.setR xs S M false = zs := ⟨_, rfl⟩
        rw [hzs] at g1 g2 g3 g4 p4 hln hcap2 ⊢
        have G1 := Lib.hid (show Bm.chgOk zs S M true = true from g1)
        have G2 := Lib.hid (show Bm.chgW zs S M true = xs from g2)
        have G3 := Lib.hid g3
        have G4 := Lib.hid g4
        have hzl : zs.length ≤ 65 := by omega
        clear g1 g2 g3 g4 hzs hrun hln
        go_wp2_with fail
        refine (bitsTake_any _ _ _ zs _ _ _ p4.reads (by omega) hcap2).mono ?_
        rw [G1.out, G2.out]
        rintro e w5 ⟨v5, rfl, p5, b5⟩
        have bb5 := bb4.trans (b5.mono bb4.size)
        have o5 := o4.up b5
        have p6 := p4.below b5 (Nat.le_refl _)
        obtain ⟨A5, c5, rfl, f5⟩ := p5.form
        clear f5 o4 p4 b5
        go_wp2_with fail
        refine (bitsGive_any _ _ _ zs _ _ _ p6.reads (by omega) hcap2).mono ?_
        rw [G3.out]
        rintro e w6 ⟨v6, rfl, p7, b6⟩
        have bb6 := bb5.trans (b6.mono bb5.size)
        have o6 := o5.up b6
        have p5 := p5.below b6 (Nat.le_refl _)
        clear p6 p7 b6 o5
        go_wp2_with fail
        refine (sameFlags_any _ _ _ _ _ _ xs xs _ p5.reads o6 (by omega) (by omega)).mono ?_
        rw [decide_eq_true rfl]
        rintro e w7 ⟨rfl, b7⟩
        have hle : ((zs.length : Int) == xs.length) = true := by rw [beq_iff_eq, G4.out]
        go_wp2_with fail
        go_ret
        exact ⟨rfl, bb6.trans (b7.mono bb6.size)⟩
      · exact absurd (Bm.okM_iff.1 hokM).2 h64
  · go_enter Try.func4, Try.ntmps4
    go_wp2
    go_ret
    exact ⟨rfl, Below.refl _ _⟩

set_option maxRecDepth 100000 in
set_option maxHeartbeats 4000000 in
theorem bitsHalvesLaw_walk (A : Option Addr) (n c : Nat) (w : World) (h : Bytes w w.heap.size A n) (hc : n ≤ c) (hn : n ≤ 9223372036854775807) :
    Calls Try.prog 5 #[.slice A n c] w fun e w' => e = .returned (.bool true) ∧ Below w.heap.size w w' := by
  by_cases hs : n ≤ 1048576
  · have hs' : decide ((1048576 : Int) < (n : Int)) = false := by simp; omega
    go_enter Try.func5, Try.ntmps5
    go_wp2_with fail
    refine (drawBitsTake_any _ _ _ _ h hc hn).mono ?_
    rintro e w1 ⟨A1, n1, c1, xs, s, m, rfl, o1, hcap, hn65, s0, s1, m0, m1, b1⟩
    have hlx := o1.1
    subst hlx
    obtain ⟨ys, hys⟩ : ∃ ys, Bm.chgW xs s m true = ys := ⟨_, rfl⟩
    obtain ⟨ok, hok⟩ : ∃ ok, Bm.chgOk xs s m true = ok := ⟨_, rfl⟩
    have HCA := Lib.hid (Bm.chg_cases xs s m true)
    have hln := Bm.chg_len xs s m true
    rw [hys, hok] at HCA
    rw [hys] at hln
    have HY := Lib.hid hys
    have HO := Lib.hid hok
    clear hys hok
    go_wp2_with fail
    refine (bitsTake_any _ _ _ xs _ _ _ o1 (by omega) hcap).mono ?_
    rw [HY.out, HO.out]
    rintro e w2 ⟨v2, rfl, p2, b2⟩
    have bb2 := b1.trans (b2.mono b1.size)
    have o2 := o1.up b2
    clear o1
    go_wp2_with fail
    refine (mBitsTake_any _ _ _ xs _ _ _ o2 (by omega)).mono ?_
    rw [HY.out, HO.out]
    rintro e w3 ⟨v3, rfl, p3, b3⟩
    have bb3 := bb2.trans (b3.mono bb2.size)
    have o3 := o2.up b3
    have p2 := p2.below b3 (Nat.le_refl _)
    obtain ⟨A2, c2, rfl, f2⟩ := p2.form
    obtain ⟨A3, c3, rfl, f3⟩ := p3.form
    have hcap2 := p2.cap.2
    clear f2 f3 o2
    go_wp2_with fail
    refine (sameFlags_any _ _ _ _ _ _ ys ys _ p2.reads p3.reads (by omega) (by omega)).mono ?_
    rw [decide_eq_true rfl]
    rintro e w4 ⟨rfl, b4⟩
    have bb4 := bb3.trans (b4.mono bb3.size)
    have o4 := o3.up b4
    have p4 := p2.below b4 (Nat.le_refl _)
    clear o3 p2 p3 b2 b3 b4
    rcases HCA.out with ⟨rfl, _⟩ | ⟨rfl, hokM, S, M, rfl, rfl, hM1, hM2, hSM, hrun, rfl⟩
    · go_wp2_with fail
      refine (alive_any _).mono ?_
      rintro e w5 ⟨rfl, b5⟩
      go_wp2_with fail
      go_ret
      exact ⟨rfl, bb4.trans (b5.mono bb4.size)⟩
    · have h64 := (Bm.okM_iff.1 hokM).2
      by_cases hM : M < 2
      · have hM' : (M : Int) < 2 := by omega
        go_wp2_with fail
        refine (alive_any _).mono ?_
        rintro e w5 ⟨rfl, b5⟩
        go_wp2_with fail
        go_ret
        exact ⟨rfl, bb4.trans (b5.mono bb4.size)⟩
      · have hM' : decide ((M : Int) < 2) = false := decide_eq_false (by omega)
        obtain ⟨P, hP⟩ : ∃ P, M / 2 = P := ⟨_, rfl⟩
        obtain ⟨Q, hQ⟩ : ∃ Q, M = P + Q := ⟨M - P, by omega⟩
        have hq : (M : Int).tdiv 2 = P := by rw [Int.tdiv_eq_ediv_of_nonneg (by omega)]; omega
        have hq2 : (M : Int) / 2 = P := by omega
        have hsub : (M : Int) - P = Q := by omega
        have hP1 : 1 ≤ P := by omega
        have hQ1 : 1 ≤ Q := by omega
        have hrun' : Bm.runF xs S (P + Q) false = true := by rw [← hQ]; exact hrun
        obtain ⟨g1, g2, g3, g4⟩ := Bm.half_law h64 hP1 hQ1 (by omega) hrun'
        rw [← hQ] at g4
        obtain ⟨zs, hzs⟩ : ∃ zs, Bm.setR xs S M true = zs := ⟨_, rfl⟩
        obtain ⟨us, hus⟩ : ∃ us, Bm.setR xs S P true = us := ⟨_, rfl⟩
        have hul : us.length ≤ 65 := by rw [← hus, Bm.setR_len true (by omega)]; omega
        have hzl : zs.length ≤ 65 := by rw [← hzs, Bm.setR_len true (by omega)]; omega
        rw [hzs] at g4 p4 hln hcap2 ⊢
        rw [hus] at g2 g3 g4
        have G1 := Lib.hid g1
        have G2 := Lib.hid g2
        have G3 := Lib.hid (show Bm.chgOk us ((S : Int) + P) Q true = true from g3)
        have G4 := Lib.hid (show Bm.chgW us ((S : Int) + P) Q true = zs from g4)
        have hwr : IntKind.i64.wrap ((S : Int) + P) = (S : Int) + P := IntWalk.i64_in _ (by omega)
        clear g1 g2 g3 g4 hzs hus hrun hrun' hQ hP
        go_wp2_with fail
        refine (bitsTake_any _ _ _ xs _ _ _ o4 (by omega) hcap).mono ?_
        rw [G1.out, G2.out]
        rintro e w5 ⟨v5, rfl, p5, b5⟩
        have bb5 := bb4.trans (b5.mono bb4.size)
        have p6 := p4.below b5 (Nat.le_refl _)
        obtain ⟨A5, c5, rfl, f5⟩ := p5.form
        have hcap5 := p5.cap.2
        clear f5 o4 p4 b5
        go_wp2_with fail
        refine (bitsTake_any _ _ _ us _ _ _ p5.reads (by omega) hcap5).mono ?_
        rw [G3.out, G4.out]
        rintro e w6 ⟨v6, rfl, p7, b6⟩
        have bb6 := bb5.trans (b6.mono bb5.size)
        have p8 := p6.below b6 (Nat.le_refl _)
        obtain ⟨A6, c6, rfl, f6⟩ := p7.form
        clear f6 p6 p5 b6
        go_wp2_with fail
        refine (sameFlags_any _ _ _ _ _ _ zs zs _ p7.reads p8.reads (by omega) (by omega)).mono ?_
        rw [decide_eq_true rfl]
        rintro e w7 ⟨rfl, b7⟩
        go_wp2_with fail
        go_ret
        exact ⟨rfl, bb6.trans (b7.mono bb6.size)⟩
  · go_enter Try.func5, Try.ntmps5
    go_wp2
    go_ret
    exact ⟨rfl, Below.refl _ _⟩
end Go.Proofs.Ytphcbjoafnffnaa
