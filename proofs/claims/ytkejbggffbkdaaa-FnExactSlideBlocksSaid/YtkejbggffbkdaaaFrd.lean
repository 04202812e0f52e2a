/- The laws of Fragmented (P39), SlideBlocks (P40), TakeSliding (P41) and of sliding and fitting (P117) return true: for every list of bytes. -/
import Derived.Test.YtkejbggffbkdaaaWv
import Derived.Test.YtkejbggffbkdaaaFrc
import Derived.BigQuiet
namespace Go.Proofs.Ytkejbggffbkdaaa
open Go.RowKit

theorem drawFragmented_any (A : Option Addr) (n c : Nat) (w : World) (h : Bytes w w.heap.size A n) (hc : n ≤ c) (hn : n ≤ 9223372036854775807) :
    Calls Try.prog 10 #[.slice A n c] w (DrawnL w) := by
  go_enter Try.func10, Try.ntmps10
  go_wp2_with fail
  refine (open_any _ _ _ _ h hc hn).mono ?_
  rintro e w1 ⟨rfl, hr1, b1⟩
  go_wp2_with fail
  refine (l20Blocks_any _ _ _ _ hr1 (by omega) (by omega) (by omega)).mono ?_
  rintro e w2 ⟨v, xs, T, rfl, ho, ha, h1, h2, h3, h4, _, hg⟩
  have HA := Lib.hid ha
  clear ha
  go_wp2_with fail
  go_ret2
  exact ⟨v, xs, T, rfl, ho.base b1.size, HA.out, h1, h2, h3, h4, b1.grown hg b1.size (fun k hk => by injection hk; omega)⟩
theorem drawSlideBlocks_any (A : Option Addr) (n c : Nat) (w : World) (h : Bytes w w.heap.size A n) (hc : n ≤ c) (hn : n ≤ 9223372036854775807) :
    Calls Try.prog 17 #[.slice A n c] w (DrawnL w) := by
  go_enter Try.func17, Try.ntmps17
  go_wp2_with fail
  refine (open_any _ _ _ _ h hc hn).mono ?_
  rintro e w1 ⟨rfl, hr1, b1⟩
  go_wp2_with fail
  refine (l20Blocks_any _ _ _ _ hr1 (by omega) (by omega) (by omega)).mono ?_
  rintro e w2 ⟨v, xs, T, rfl, ho, ha, h1, h2, h3, h4, _, hg⟩
  have HA := Lib.hid ha
  clear ha
  go_wp2_with fail
  go_ret2
  exact ⟨v, xs, T, rfl, ho.base b1.size, HA.out, h1, h2, h3, h4, b1.grown hg b1.size (fun k hk => by injection hk; omega)⟩
theorem drawTakeSliding_any (A : Option Addr) (n c : Nat) (w : World) (h : Bytes w w.heap.size A n) (hc : n ≤ c) (hn : n ≤ 9223372036854775807) :
    Calls Try.prog 21 #[.slice A n c] w (DrawnA w) := by
  go_enter Try.func21, Try.ntmps21
  go_wp2_with fail
  refine (open_any _ _ _ _ h hc hn).mono ?_
  rintro e w1 ⟨rfl, hr1, b1⟩
  go_wp2_with fail
  refine (l20Ask_any _ _ _ hr1 (by omega)).mono ?_
  rintro e w2 ⟨v, xs, T, q, rfl, ho, ha, h1, h2, h3, h4, h5, h6, _, hg⟩
  have HA := Lib.hid ha
  clear ha
  go_wp2_with fail
  go_ret3
  exact ⟨v, xs, T, q, rfl, ho.base b1.size, HA.out, h1, h2, h3, h4, h5, h6, b1.grown hg b1.size (fun k hk => by injection hk; omega)⟩

namespace Bks
theorem mov_bd (xs : List Bl) (t : Int) : -1 ≤ movW xs t ∧ movW xs t ≤ 256 := by
  unfold movW
  split
  · next hv =>
    have h1 := mov_le hv xs.length (Nat.le_refl _)
    have h2 := atS_all hv
    omega
  · omega
theorem slide_all (xs : List Bl) (t : Int) : AllI (slideW xs t) ∧ (slideW xs t).length ≤ 256 := by
  unfold slideW
  cases hv : validB xs t
  · exact ⟨fun k x hx => by simp at hx, by simp⟩
  · exact ⟨valid_all_ (slide_valid hv), (valid_len (slide_valid hv)).2.1⟩
theorem ts_out (xs : List Bl) (t size : Int) (h : validB xs t = false ∨ size < 1 ∨ 256 < size) : tsOk xs t size = false := by
  unfold tsOk
  rcases h with h | h
  · rw [h]; rfl
  · rw [firstW_not (by omega), firstW_not (by omega)]
    simp
theorem ts_all (xs : List Bl) (t size : Int) : AllI (tsW xs t size) ∧ (tsW xs t size).length ≤ 256 := by
  unfold tsW
  cases hv : validB xs t
  · exact ⟨fun k x hx => by simp at hx, by simp⟩
  · have : validB (tsB xs t size) t = true := by
      unfold tsB
      split
      · exact takeB_valid hv
      · split
        · exact takeB_valid (slide_valid hv)
        · exact hv
    exact ⟨valid_all_ this, (valid_len this).2.1⟩
end Bks

set_option maxRecDepth 100000 in
set_option maxHeartbeats 4000000 in
theorem slideFitLaw_walk (A : Option Addr) (n c : Nat) (w : World) (h : Bytes w w.heap.size A n) (hc : n ≤ c) (hn : n ≤ 9223372036854775807) :
    Calls Try.prog 6 #[.slice A n c] w fun e w' => e = .returned (.bool true) ∧ Below w.heap.size w w' := by
  by_cases hs : n ≤ 1048576
  · have hs' : decide ((1048576 : Int) < (n : Int)) = false := by simp; omega
    go_enter Try.func6, Try.ntmps6
    go_wp2_with fail
    refine (drawTakeSliding_any _ _ _ _ h hc hn).mono ?_
    rintro e w1 ⟨v, xs, T, q, rfl, o1, ha, l1, l2, t1, t2, q1, q2, b1⟩
    obtain ⟨A1, c1, rfl, f1⟩ := o1.form
    have hcap := o1.cap.2
    clear f1
    have HA := Lib.hid ha
    obtain ⟨ya, yl⟩ := Bks.slide_all xs T
    obtain ⟨ys, hys⟩ : ∃ ys, Bks.slideW xs T = ys := ⟨_, rfl⟩
    obtain ⟨m, hm⟩ : ∃ m, Bks.movW xs T = m := ⟨_, rfl⟩
    rw [hys] at ya yl
    have HYA := Lib.hid ya
    have HY := Lib.hid hys
    have HM := Lib.hid hm
    clear ha ya hys hm
    go_wp2_with fail
    refine (slideBlocks_any _ _ _ xs _ _ (o1.reads HA.out) (by omega) hcap).mono ?_
    rw [HY.out, HM.out]
    rintro e w2 ⟨v2, rfl, p2, b2⟩
    have bb2 := b1.trans (b2.mono b1.size)
    have o2 := o1.below b2 (Nat.le_refl _)
    clear o1 b1
    go_wp2_with fail
    refine (mSlideBlocks_any _ _ _ xs _ _ (o2.reads HA.out) (by omega)).mono ?_
    rw [HY.out, HM.out]
    rintro e w3 ⟨v3, rfl, p3, b3⟩
    have bb3 := bb2.trans (b3.mono bb2.size)
    have o3 := o2.below b3 (Nat.le_refl _)
    have p2' := p2.below b3 (Nat.le_refl _)
    clear o2 p2 bb2 b2
    obtain ⟨A2, c2, rfl, f2⟩ := p2'.form
    obtain ⟨A3, c3, rfl, f3⟩ := p3.form
    clear f2 f3
    go_wp2_with fail
    refine (sameBlocks_any _ _ _ _ _ _ ys ys _ (p2'.reads HYA.out) (p3.reads HYA.out) (by omega) (by omega)).mono ?_
    rw [decide_eq_true rfl]
    rintro e w4 ⟨rfl, b4⟩
    have bb4 := bb3.trans (b4.mono bb3.size)
    have o4 := o3.below b4 (Nat.le_refl _)
    have p4 := p2'.below b4 (Nat.le_refl _)
    clear o3 p2' p3 b3 b4 bb3
    have hmb := Bks.mov_bd xs T
    rw [HM.out] at hmb
    cases hv : Bks.validB xs T
    · obtain rfl : m = -1 := by rw [← HM.out, Bks.movW, hv]; rfl
      clear hv
      go_wp2_with fail
      refine (alive_any _).mono ?_
      rintro e w5 ⟨rfl, b5⟩
      go_wp2_with fail
      go_ret
      exact ⟨rfl, bb4.trans (b5.mono bb4.size)⟩
    · have hm0 : 0 ≤ m := by
        rw [← HM.out, Bks.movW, hv, if_pos rfl]
        exact (Bks.mov_le hv xs.length (Nat.le_refl _)).1
      have hm' : decide (m < 0) = false := decide_eq_false (by omega)
      by_cases hq1 : q < 1
      · clear hv
        go_wp2_with fail
        refine (alive_any _).mono ?_
        rintro e w5 ⟨rfl, b5⟩
        go_wp2_with fail
        go_ret
        exact ⟨rfl, bb4.trans (b5.mono bb4.size)⟩
      · have hq1' : decide (q < 1) = false := decide_eq_false hq1
        by_cases hq2 : 256 < q
        · clear hv
          go_wp2_with fail
          refine (alive_any _).mono ?_
          rintro e w5 ⟨rfl, b5⟩
          go_wp2_with fail
          go_ret
          exact ⟨rfl, bb4.trans (b5.mono bb4.size)⟩
        · have hq2' : decide (256 < q) = false := decide_eq_false hq2
          obtain rfl : Bks.slideB xs T = ys := by rw [← HY.out, Bks.slideW, hv, if_pos rfl]
          have hiff := Bks.first_slide hv (show 1 ≤ q by omega) (show q ≤ 256 by omega)
          have hfw : Bks.freeW xs T = Bks.free xs := by rw [Bks.freeW, hv, Bks.free_eq]; rfl
          obtain ⟨f, hf⟩ : ∃ f, Bks.firstW (Bks.slideB xs T) T q = f := ⟨_, rfl⟩
          obtain ⟨fr, hfr⟩ : ∃ fr, Bks.free xs = fr := ⟨_, rfl⟩
          rw [hf, hfr] at hiff
          rw [hfr] at hfw
          have HF := Lib.hid hf
          have HW := Lib.hid hfw
          have hdec : decide (0 ≤ f) = decide (q ≤ fr) := decide_eq_decide.2 hiff
          clear hv hf hfr hfw hiff
          go_wp2_with fail
          refine (firstFit_any _ _ _ _ _ _ _ (p4.reads HYA.out) (by omega)).mono ?_
          rw [HF.out]
          rintro e w5 ⟨rfl, b5⟩
          have bb5 := bb4.trans (b5.mono bb4.size)
          have o5 := o4.below b5 (Nat.le_refl _)
          go_wp2_with fail
          refine (freeWords_any _ _ _ xs _ _ (o5.reads HA.out) (by omega)).mono ?_
          rw [HW.out]
          rintro e w6 ⟨rfl, b6⟩
          go_wp2_with fail
          go_ret
          exact ⟨by first | rfl | (simp [hdec]), bb5.trans (b6.mono bb5.size)⟩
  · go_enter Try.func6, Try.ntmps6
    go_wp2
    go_ret
    exact ⟨rfl, Below.refl _ _⟩

set_option maxRecDepth 100000 in
set_option maxHeartbeats 4000000 in
theorem fragmentedLaw_walk (A : Option Addr) (n c : Nat) (w : World) (h : Bytes w w.heap.size A n) (hc : n ≤ c) (hn : n ≤ 9223372036854775807) :
    Calls Try.prog 3 #[.slice A n c] w fun e w' => e = .returned (.bool true) ∧ Below w.heap.size w w' := by
  by_cases hs : n ≤ 1048576
  · have hs' : decide ((1048576 : Int) < (n : Int)) = false := by simp; omega
    go_enter Try.func3, Try.ntmps3
    go_wp2_with fail
    refine (drawFragmented_any _ _ _ _ h hc hn).mono ?_
    rintro e w1 ⟨v, xs, T, rfl, o1, ha, l1, l2, t1, t2, b1⟩
    obtain ⟨A1, c1, rfl, f1⟩ := o1.form
    have hcap := o1.cap.2
    clear f1
    have HA := Lib.hid ha
    obtain ⟨f, hf⟩ : ∃ f, Bks.fragW xs T = f := ⟨_, rfl⟩
    have HF := Lib.hid hf
    clear ha hf
    go_wp2_with fail
    refine (fragmented_any _ _ _ xs _ _ (o1.reads HA.out) (by omega)).mono ?_
    rw [HF.out]
    rintro e w2 ⟨rfl, b2⟩
    have bb2 := b1.trans (b2.mono b1.size)
    have o2 := o1.below b2 (Nat.le_refl _)
    clear o1 b1
    go_wp2_with fail
    refine (mFragmented_any _ _ _ xs _ _ (o2.reads HA.out) (by omega)).mono ?_
    rw [HF.out]
    rintro e w3 ⟨rfl, b3⟩
    have bb3 := bb2.trans (b3.mono bb2.size)
    have o3 := o2.below b3 (Nat.le_refl _)
    clear o2 b2 b3 bb2
    cases hv : Bks.validB xs T
    · obtain rfl : f = -1 := by rw [← HF.out, Bks.fragW, hv]; rfl
      clear hv
      go_wp2_with fail
      refine (alive_any _).mono ?_
      rintro e w4 ⟨rfl, b4⟩
      go_wp2_with fail
      go_ret
      exact ⟨rfl, bb3.trans (b4.mono bb3.size)⟩
    · obtain ⟨q0, q1, q2, q3⟩ := Bks.frag_law hv
      have hsv := Bks.slide_valid hv
      have hys : Bks.slideW xs T = Bks.slideB xs T := by rw [Bks.slideW, hv, if_pos rfl]
      have hfw : Bks.freeW xs T = Bks.free xs := by rw [Bks.freeW, hv, Bks.free_eq]; rfl
      have hlw : Bks.largeW xs T = Bks.maxTo xs xs.length := by rw [Bks.largeW, hv]; rfl
      have hr := Bks.free_range hv xs.length (Nat.le_refl _)
      rw [Bks.free_eq] at hr
      obtain ⟨ys, hyy⟩ : ∃ ys, Bks.slideB xs T = ys := ⟨_, rfl⟩
      obtain ⟨m, hm⟩ : ∃ m, Bks.movW xs T = m := ⟨_, rfl⟩
      obtain ⟨fr, hfr⟩ : ∃ fr, Bks.free xs = fr := ⟨_, rfl⟩
      obtain ⟨la, hla⟩ : ∃ la, Bks.maxTo xs xs.length = la := ⟨_, rfl⟩
      rw [hyy] at q2 hys hsv
      rw [hfr] at hfw q3 hr
      rw [hla] at hlw q3 hr
      rw [HF.out] at q0 q1 q3
      obtain ⟨r1, r2, r3, r4, r5⟩ := hr
      have yl := (Bks.valid_len hsv).2.1
      have HYA := Lib.hid (valid_all_ hsv)
      have HY := Lib.hid hys
      have HM := Lib.hid hm
      have HW := Lib.hid hfw
      have HL := Lib.hid hlw
      have HQ := Lib.hid q2
      have hdec : (f == 0) = decide (100 * (fr - la) < max 1 fr) := by
        rw [Bool.eq_iff_iff, beq_iff_eq, decide_eq_true_eq]
        exact q3
      have hf0 : decide (f < 0) = false := decide_eq_false (by omega)
      have hfr2 : fr ≤ 256 := by omega
      clear hv hys hm hyy hfr hla hfw hlw q2 q3 hsv r2 r5
      go_wp2_with fail
      refine (slideBlocks_any _ _ _ xs _ _ (o3.reads HA.out) (by omega) hcap).mono ?_
      rw [HY.out, HM.out]
      rintro e w4 ⟨v4, rfl, p4, b4⟩
      have bb4 := bb3.trans (b4.mono bb3.size)
      have o4 := o3.below b4 (Nat.le_refl _)
      obtain ⟨A4, c4, rfl, f4⟩ := p4.form
      clear f4 o3
      go_wp2_with fail
      refine (freeWords_any _ _ _ xs _ _ (o4.reads HA.out) (by omega)).mono ?_
      rw [HW.out]
      rintro e w5 ⟨rfl, b5⟩
      have bb5 := bb4.trans (b5.mono bb4.size)
      have o5 := o4.below b5 (Nat.le_refl _)
      have p5 := p4.below b5 (Nat.le_refl _)
      clear o4 p4
      go_wp2_with fail
      refine (fragmented_any _ _ _ ys _ _ (p5.reads HYA.out) (by omega)).mono ?_
      rw [HQ.out]
      rintro e w6 ⟨rfl, b6⟩
      have bb6 := bb5.trans (b6.mono bb5.size)
      have o6 := o5.below b6 (Nat.le_refl _)
      go_wp2_with fail
      refine (largestFree_any _ _ _ xs _ _ (o6.reads HA.out) (by omega)).mono ?_
      rw [HL.out]
      rintro e w7 ⟨rfl, b7⟩
      go_wp2_with fail
      all_goals
        go_ret
        refine ⟨ret_bool ?_, bb6.trans (b7.mono bb6.size)⟩
        rw [beq_iff_eq, decide_eq_decide]
        constructor <;> intro _ <;> omega
  · go_enter Try.func3, Try.ntmps3
    go_wp2
    go_ret
    exact ⟨rfl, Below.refl _ _⟩

set_option maxRecDepth 100000 in
set_option maxHeartbeats 4000000 in
theorem takeSlidingLaw_walk (A : Option Addr) (n c : Nat) (w : World) (h : Bytes w w.heap.size A n) (hc : n ≤ c) (hn : n ≤ 9223372036854775807) :
    Calls Try.prog 5 #[.slice A n c] w fun e w' => e = .returned (.bool true) ∧ Below w.heap.size w w' := by
  by_cases hs : n ≤ 1048576
  · have hs' : decide ((1048576 : Int) < (n : Int)) = false := by simp; omega
    go_enter Try.func5, Try.ntmps5
    go_wp2_with fail
    refine (drawTakeSliding_any _ _ _ _ h hc hn).mono ?_
    rintro e w1 ⟨v, xs, T, q, rfl, o1, ha, l1, l2, t1, t2, q1, q2, b1⟩
    obtain ⟨A1, c1, rfl, f1⟩ := o1.form
    have hcap := o1.cap.2
    clear f1
    have HA := Lib.hid ha
    obtain ⟨ya, yl⟩ := Bks.ts_all xs T q
    have hlaw := fun hv h1 h2 => Bks.ts_law (xs := xs) (t := T) (size := q) hv h1 h2
    have hinv := Bks.ts_out xs T q
    obtain ⟨ys, hys⟩ : ∃ ys, Bks.tsW xs T q = ys := ⟨_, rfl⟩
    obtain ⟨ok, hok⟩ : ∃ ok, Bks.tsOk xs T q = ok := ⟨_, rfl⟩
    rw [hys] at ya yl hlaw
    rw [hok] at hlaw hinv
    have HYA := Lib.hid ya
    have HY := Lib.hid hys
    have HM := Lib.hid hok
    have HLW := Lib.hid hlaw
    have HI := Lib.hid hinv
    clear ha ya hys hok hlaw hinv
    go_wp2_with fail
    refine (takeSliding_any _ _ _ xs _ _ _ (o1.reads HA.out) (by omega) hcap).mono ?_
    rw [HY.out, HM.out]
    rintro e w2 ⟨v2, rfl, p2, b2⟩
    have bb2 := b1.trans (b2.mono b1.size)
    have o2 := o1.below b2 (Nat.le_refl _)
    clear o1 b1
    go_wp2_with fail
    refine (mTakeSliding_any _ _ _ xs _ _ _ (o2.reads HA.out) (by omega) hcap).mono ?_
    rw [HY.out, HM.out]
    rintro e w3 ⟨v3, rfl, p3, b3⟩
    have bb3 := bb2.trans (b3.mono bb2.size)
    have o3 := o2.below b3 (Nat.le_refl _)
    have p2' := p2.below b3 (Nat.le_refl _)
    clear o2 p2 bb2 b2
    obtain ⟨A2, c2, rfl, f2⟩ := p2'.form
    obtain ⟨A3, c3, rfl, f3⟩ := p3.form
    clear f2 f3
    go_wp2_with fail
    refine (sameBlocks_any _ _ _ _ _ _ ys ys _ (p2'.reads HYA.out) (p3.reads HYA.out) (by omega) (by omega)).mono ?_
    rw [decide_eq_true rfl]
    rintro e w4 ⟨rfl, b4⟩
    have bb4 := bb3.trans (b4.mono bb3.size)
    have o4 := o3.below b4 (Nat.le_refl _)
    have p4 := p2'.below b4 (Nat.le_refl _)
    clear o3 p2' p3 b3 b4 bb3
    cases hv : Bks.validB xs T
    · obtain rfl : ok = false := HI.out (.inl hv)
      have HV := Lib.hid hv
      clear hv
      go_wp2_with fail
      refine (mBlocksValid_any _ _ _ xs _ _ (o4.reads HA.out) (by omega)).mono ?_
      rw [HV.out]
      rintro e w5 ⟨rfl, b5⟩
      have bb5 := bb4.trans (b5.mono bb4.size)
      go_wp2_with fail
      refine (alive_any _).mono ?_
      rintro e w6 ⟨rfl, b6⟩
      go_wp2_with fail
      go_ret
      exact ⟨rfl, bb5.trans (b6.mono bb5.size)⟩
    · have HV := Lib.hid hv
      by_cases hq1 : q < 1
      · obtain rfl : ok = false := HI.out (.inr (.inl hq1))
        clear hv
        go_wp2_with fail
        refine (mBlocksValid_any _ _ _ xs _ _ (o4.reads HA.out) (by omega)).mono ?_
        rw [HV.out]
        rintro e w5 ⟨rfl, b5⟩
        have bb5 := bb4.trans (b5.mono bb4.size)
        go_wp2_with fail
        refine (alive_any _).mono ?_
        rintro e w6 ⟨rfl, b6⟩
        go_wp2_with fail
        go_ret
        exact ⟨rfl, bb5.trans (b6.mono bb5.size)⟩
      · have hq1' : decide (q < 1) = false := decide_eq_false hq1
        by_cases hq2 : 256 < q
        · obtain rfl : ok = false := HI.out (.inr (.inr hq2))
          clear hv
          go_wp2_with fail
          refine (mBlocksValid_any _ _ _ xs _ _ (o4.reads HA.out) (by omega)).mono ?_
          rw [HV.out]
          rintro e w5 ⟨rfl, b5⟩
          have bb5 := bb4.trans (b5.mono bb4.size)
          go_wp2_with fail
          refine (alive_any _).mono ?_
          rintro e w6 ⟨rfl, b6⟩
          go_wp2_with fail
          go_ret
          exact ⟨rfl, bb5.trans (b6.mono bb5.size)⟩
        · have hq2' : decide (256 < q) = false := decide_eq_false hq2
          have hfw : Bks.freeW xs T = Bks.free xs := by rw [Bks.freeW, hv, Bks.free_eq]; rfl
          have hr := Bks.free_range hv xs.length (Nat.le_refl _)
          rw [Bks.free_eq] at hr
          have hll := HLW.out hv (by omega) (by omega)
          obtain ⟨fr, hfr⟩ : ∃ fr, Bks.free xs = fr := ⟨_, rfl⟩
          rw [hfr] at hfw hll hr
          have HW := Lib.hid hfw
          have r1 := hr.1
          have r2 : fr ≤ 256 := by omega
          clear hv hfw hfr hr
          rcases hll with ⟨g1, rfl, g3, g4⟩ | ⟨g1, rfl, rfl⟩
          · have HYW := Lib.hid (show Bks.freeW ys T = fr - q by rw [Bks.freeW, g3, if_pos rfl, Bks.free_eq, g4])
            have HYV := Lib.hid g3
            clear g3 g4
            go_wp2_with fail
            refine (mBlocksValid_any _ _ _ xs _ _ (o4.reads HA.out) (by omega)).mono ?_
            rw [HV.out]
            rintro e w5 ⟨rfl, b5⟩
            have bb5 := bb4.trans (b5.mono bb4.size)
            have o5 := o4.below b5 (Nat.le_refl _)
            have p5 := p4.below b5 (Nat.le_refl _)
            clear o4 p4
            go_wp2_with fail
            refine (freeWords_any _ _ _ xs _ _ (o5.reads HA.out) (by omega)).mono ?_
            rw [HW.out]
            rintro e w6 ⟨rfl, b6⟩
            have bb6 := bb5.trans (b6.mono bb5.size)
            have p6 := p5.below b6 (Nat.le_refl _)
            clear o5 p5
            go_wp2_with fail
            refine (freeWords_any _ _ _ ys _ _ (p6.reads HYA.out) (by omega)).mono ?_
            rw [HYW.out]
            rintro e w7 ⟨rfl, b7⟩
            have bb7 := bb6.trans (b7.mono bb6.size)
            have p7 := p6.below b7 (Nat.le_refl _)
            clear p6
            go_wp2_with fail
            refine (blocksValid_any _ _ _ ys _ _ (p7.reads HYA.out) (by omega)).mono ?_
            rw [HYV.out]
            rintro e w8 ⟨rfl, b8⟩
            go_wp2_with fail
            go_ret
            exact ⟨rfl, bb7.trans (b8.mono bb7.size)⟩
          · have hg1 : decide (q ≤ fr) = false := decide_eq_false (by omega)
            go_wp2_with fail
            refine (mBlocksValid_any _ _ _ _ _ _ (o4.reads HA.out) (by omega)).mono ?_
            rw [HV.out]
            rintro e w5 ⟨rfl, b5⟩
            have bb5 := bb4.trans (b5.mono bb4.size)
            have o5 := o4.below b5 (Nat.le_refl _)
            have p5 := p4.below b5 (Nat.le_refl _)
            clear o4 p4
            go_wp2_with fail
            refine (freeWords_any _ _ _ _ _ _ (o5.reads HA.out) (by omega)).mono ?_
            rw [HW.out]
            rintro e w6 ⟨rfl, b6⟩
            have bb6 := bb5.trans (b6.mono bb5.size)
            have o6 := o5.below b6 (Nat.le_refl _)
            have p6 := p5.below b6 (Nat.le_refl _)
            clear o5 p5
            go_wp2_with fail
            refine (sameBlocks_any _ _ _ _ _ _ _ _ _ (p6.reads HYA.out) (o6.reads HA.out) (by omega) (by omega)).mono ?_
            rw [decide_eq_true rfl]
            rintro e w7 ⟨rfl, b7⟩
            go_wp2_with fail
            go_ret
            exact ⟨rfl, bb6.trans (b7.mono bb6.size)⟩
  · go_enter Try.func5, Try.ntmps5
    go_wp2
    go_ret
    exact ⟨rfl, Below.refl _ _⟩

set_option maxRecDepth 100000 in
set_option maxHeartbeats 4000000 in
theorem slideBlocksLaw_walk (A : Option Addr) (n c : Nat) (w : World) (h : Bytes w w.heap.size A n) (hc : n ≤ c) (hn : n ≤ 9223372036854775807) :
    Calls Try.prog 4 #[.slice A n c] w fun e w' => e = .returned (.bool true) ∧ Below w.heap.size w w' := by
  by_cases hs : n ≤ 1048576
  · have hs' : decide ((1048576 : Int) < (n : Int)) = false := by simp; omega
    go_enter Try.func4, Try.ntmps4
    go_wp2_with fail
    refine (drawSlideBlocks_any _ _ _ _ h hc hn).mono ?_
    rintro e w1 ⟨v, xs, T, rfl, o1, ha, l1, l2, t1, t2, b1⟩
    obtain ⟨A1, c1, rfl, f1⟩ := o1.form
    have hcap := o1.cap.2
    clear f1
    have HA := Lib.hid ha
    obtain ⟨ya, yl⟩ := Bks.slide_all xs T
    obtain ⟨ys, hys⟩ : ∃ ys, Bks.slideW xs T = ys := ⟨_, rfl⟩
    obtain ⟨m, hm⟩ : ∃ m, Bks.movW xs T = m := ⟨_, rfl⟩
    rw [hys] at ya yl
    have HYA := Lib.hid ya
    have HY := Lib.hid hys
    have HM := Lib.hid hm
    clear ha ya hys hm
    go_wp2_with fail
    refine (slideBlocks_any _ _ _ xs _ _ (o1.reads HA.out) (by omega) hcap).mono ?_
    rw [HY.out, HM.out]
    rintro e w2 ⟨v2, rfl, p2, b2⟩
    have bb2 := b1.trans (b2.mono b1.size)
    have o2 := o1.below b2 (Nat.le_refl _)
    clear o1 b1
    go_wp2_with fail
    refine (mSlideBlocks_any _ _ _ xs _ _ (o2.reads HA.out) (by omega)).mono ?_
    rw [HY.out, HM.out]
    rintro e w3 ⟨v3, rfl, p3, b3⟩
    have bb3 := bb2.trans (b3.mono bb2.size)
    have o3 := o2.below b3 (Nat.le_refl _)
    have p2' := p2.below b3 (Nat.le_refl _)
    clear o2 p2 bb2 b2
    obtain ⟨A2, c2, rfl, f2⟩ := p2'.form
    obtain ⟨A3, c3, rfl, f3⟩ := p3.form
    clear f2 f3
    go_wp2_with fail
    refine (sameBlocks_any _ _ _ _ _ _ ys ys _ (p2'.reads HYA.out) (p3.reads HYA.out) (by omega) (by omega)).mono ?_
    rw [decide_eq_true rfl]
    rintro e w4 ⟨rfl, b4⟩
    have bb4 := bb3.trans (b4.mono bb3.size)
    have o4 := o3.below b4 (Nat.le_refl _)
    have p4 := p2'.below b4 (Nat.le_refl _)
    clear o3 p2' p3 b3 b4 bb3
    have hmb := Bks.mov_bd xs T
    rw [HM.out] at hmb
    cases hv : Bks.validB xs T
    · obtain rfl : m = -1 := by rw [← HM.out, Bks.movW, hv]; rfl
      obtain rfl : ys = [] := by rw [← HY.out, Bks.slideW, hv]; rfl
      clear hv
      go_wp2_with fail
      refine (alive_any _).mono ?_
      rintro e w5 ⟨rfl, b5⟩
      go_wp2_with fail
      go_ret
      exact ⟨rfl, bb4.trans (b5.mono bb4.size)⟩
    · have hm0 : 0 ≤ m := by
        rw [← HM.out, Bks.movW, hv, if_pos rfl]
        exact (Bks.mov_le hv xs.length (Nat.le_refl _)).1
      have hmT : m ≤ T := by
        rw [← HM.out, Bks.movW, hv, if_pos rfl]
        have := Bks.mov_le hv xs.length (Nat.le_refl _)
        have := Bks.atS_all hv
        omega
      have hm' : decide (m < 0) = false := decide_eq_false (by omega)
      have hyy : Bks.slideB xs T = ys := by rw [← HY.out, Bks.slideW, hv, if_pos rfl]
      have hsv := Bks.slide_valid hv
      have hsf := Bks.slide_free hv
      have hsm := Bks.slide_max hv
      obtain ⟨hsa, hsz⟩ := Bks.slide_again hv
      have HAT := Lib.hid (fun k x hx hu => Bks.slide_at (xs := xs) (t := T) (k := k) (x := x) hx hu)
      have hr := Bks.free_range hv xs.length (Nat.le_refl _)
      rw [Bks.free_eq] at hr
      obtain ⟨fr, hfr⟩ : ∃ fr, Bks.free xs = fr := ⟨_, rfl⟩
      have HW := Lib.hid (show Bks.freeW xs T = fr by rw [Bks.freeW, hv, if_pos rfl, Bks.free_eq, hfr])
      rw [hfr] at hsf hsm hr
      rw [hyy] at hsv hsf hsm hsa hsz HAT
      have HYV := Lib.hid hsv
      have HYW := Lib.hid (show Bks.freeW ys T = fr by rw [Bks.freeW, hsv, if_pos rfl, Bks.free_eq, hsf])
      have HYL := Lib.hid (show Bks.largeW ys T = fr by rw [Bks.largeW, hsv, if_pos rfl, hsm])
      have HYS := Lib.hid (show Bks.slideW ys T = ys by rw [Bks.slideW, hsv, if_pos rfl, hsa])
      have HYM := Lib.hid (show Bks.movW ys T = 0 by rw [Bks.movW, hsv, if_pos rfl, hsz])
      have r1 := hr.1
      have r2 : fr ≤ 256 := by omega
      have OO := Lib.hid (o4.reads HA.out)
      have PP := Lib.hid (p4.reads HYA.out)
      have hcap2 := p4.cap.2
      clear hv hyy hsv hsf hsm hsa hsz hr hfr o4 p4
      go_wp2_with fail
      go_loopw [9, 10] (fun a i wr => ∃ k : Nat, k ≤ xs.length ∧ i = .int .i64 k ∧ a = .int .i64 ((Bks.slL xs k).length : Nat) ∧ Below w4.heap.size w4 wr) (fun _ i _ => xs.length - (intOf i).toNat)
      case atStart => exact ⟨0, Nat.zero_le _, rfl, rfl, Below.refl _ _⟩
      case round =>
        obtain ⟨k, hk, rfl, rfl, hb⟩ := hrel
        have hsl := Bks.slL_len_le xs k
        by_cases hlt : k < xs.length
        · have hlt' : (k : Int) < xs.length := by omega
          obtain ⟨g, o, x, e1, hg, hx, i1, i2, d1, d2, d3⟩ := (OO.out.below hb).at_ hlt
          subst e1
          cases hu : x.u
          · have HN := Lib.hid (Bks.slL_free hx hu)
            rw [hu] at d3
            clear hx hu d1 d2
            go_wp2_with fail
            go_roundw
            case rel => exact ⟨k + 1, by omega, by go_num, by rw [HN.out], hb⟩
            case measure => simp [intOf]; omega
          · have hat := HAT.out k x hx hu
            have hal := (List.getElem?_eq_some_iff.1 hat).1
            have HN := Lib.hid (show (Bks.slL xs (k + 1)).length = (Bks.slL xs k).length + 1 by rw [Bks.slL_used hx hu]; simp)
            obtain ⟨a, hae⟩ : ∃ a, (Bks.slL xs k).length = a := ⟨_, rfl⟩
            rw [hae] at hat hal HN hsl ⊢
            obtain ⟨g', o', y, e2, hg', hy, j1, j2, c1', c2', c3'⟩ := (PP.out.below hb).at_ hal
            subst e2
            rw [hat] at hy
            injection hy with hy
            subst hy
            rw [hu] at d3
            have t1 : decide ((ys.length : Int) ≤ (a : Int)) = false := decide_eq_false (by omega)
            have t1n : decide (ys.length ≤ a) = false := decide_eq_false (by omega)
            have t2 : (a : Int) < ys.length := by omega
            simp only at c2' c3'
            clear hx hu hat hae i1 i2 j1 j2 d1 c1'
            go_wp2_with fail
            go_big_quiet (fail)
            go_wp2
            go_roundw
            case rel => exact ⟨k + 1, by omega, by go_num, by rw [HN.out]; go_num, below_drewN hb _⟩
            case measure => simp [intOf]; omega
        · obtain rfl : k = xs.length := by omega
          have o5 := OO.out.up hb
          have p5 := PP.out.up hb
          have bb5 := bb4.trans (hb.mono bb4.size)
          clear hsl
          go_wp2_with fail
          refine (slideBlocks_any _ _ _ ys _ _ p5 (by omega) hcap2).mono ?_
          rw [HYS.out, HYM.out]
          rintro e w6 ⟨v6, rfl, q6, b6⟩
          have bb6 := bb5.trans (b6.mono bb5.size)
          have o6 := o5.up b6
          have p6 := p5.up b6
          obtain ⟨A6, c6, rfl, f6⟩ := q6.form
          clear f6 o5 p5
          go_wp2_with fail
          refine (blocksValid_any _ _ _ ys _ _ p6 (by omega)).mono ?_
          rw [HYV.out]
          rintro e w7 ⟨rfl, b7⟩
          have bb7 := bb6.trans (b7.mono bb6.size)
          have o7 := o6.up b7
          have p7 := p6.up b7
          have q7 := q6.below b7 (Nat.le_refl _)
          clear o6 p6 q6
          go_wp2_with fail
          refine (largestFree_any _ _ _ ys _ _ p7 (by omega)).mono ?_
          rw [HYL.out]
          rintro e w8 ⟨rfl, b8⟩
          have bb8 := bb7.trans (b8.mono bb7.size)
          have o8 := o7.up b8
          have p8 := p7.up b8
          have q8 := q7.below b8 (Nat.le_refl _)
          clear o7 p7 q7
          go_wp2_with fail
          refine (freeWords_any _ _ _ xs _ _ o8 (by omega)).mono ?_
          rw [HW.out]
          rintro e w9 ⟨rfl, b9⟩
          have bb9 := bb8.trans (b9.mono bb8.size)
          have o9 := o8.up b9
          have p9 := p8.up b9
          have q9 := q8.below b9 (Nat.le_refl _)
          clear o8 p8 q8
          go_wp2_with fail
          refine (freeWords_any _ _ _ ys _ _ p9 (by omega)).mono ?_
          rw [HYW.out]
          rintro e w10 ⟨rfl, b10⟩
          have bb10 := bb9.trans (b10.mono bb9.size)
          have o10 := o9.up b10
          have p10 := p9.up b10
          have q10 := q9.below b10 (Nat.le_refl _)
          clear o9 p9 q9
          go_wp2_with fail
          refine (freeWords_any _ _ _ xs _ _ o10 (by omega)).mono ?_
          rw [HW.out]
          rintro e w11 ⟨rfl, b11⟩
          have bb11 := bb10.trans (b11.mono bb10.size)
          have p11 := p10.up b11
          have q11 := q10.below b11 (Nat.le_refl _)
          clear o10 p10 q10
          go_wp2_with fail
          refine (sameBlocks_any _ _ _ _ _ _ ys ys _ (q11.reads HYA.out) p11 (by omega) (by omega)).mono ?_
          rw [decide_eq_true rfl]
          rintro e w12 ⟨rfl, b12⟩
          go_wp2_with fail
          go_ret
          exact ⟨rfl, bb11.trans (b12.mono bb11.size)⟩
  · go_enter Try.func4, Try.ntmps4
    go_wp2
    go_ret
    exact ⟨rfl, Below.refl _ _⟩
end Go.Proofs.Ytkejbggffbkdaaa
