/- The laws of TakeBlock (P22), BlocksOrder (P111) and FitsBoth (P112) return true: for every list of bytes. -/
import Derived.Test.YtfffilgghogiaaaWu
import Derived.Test.YtfffilgghogiaaaWw
namespace Go.Proofs.Ytfffilgghogiaaa
open Go.RowKit

theorem freeW_free {xs : List Bl} {t : Int} (hv : Bks.validB xs t = true) : Bks.freeW xs t = Bks.free xs := by
  rw [Bks.freeW, if_pos hv, Bks.free_eq]

/-- what TakeBlock does -/
theorem take_cases (xs : List Bl) (t num size : Int) (ys : List Bl) (ok : Bool) (h1 : (if Bks.validB xs t = true then Bks.takeB xs num size else []) = ys) (h2 : (Bks.validB xs t && Bks.canTake xs num size) = ok) :
    (ok = false ∧ (ys = [] ∨ ys = xs)) ∨ (ok = true ∧ Bks.validB ys t = true ∧ Bks.freeW ys t = Bks.freeW xs t - size ∧ Bks.giveB ys num = xs ∧ Bks.canGive ys num = true ∧ Bks.freeW xs t ≤ 256 ∧ 0 ≤ Bks.freeW ys t) := by
  cases hv : Bks.validB xs t
  · rw [hv] at h1 h2
    exact .inl ⟨h2.symm, .inl h1.symm⟩
  · rw [hv] at h1 h2
    simp only [if_true, Bool.true_and] at h1 h2
    cases ok
    · exact .inl ⟨rfl, .inr (h1.symm.trans (takeB_not h2))⟩
    · right
      have hc := h2
      unfold Bks.canTake at hc
      rw [Bool.and_eq_true, decide_eq_true_eq] at hc
      obtain ⟨h0, hc⟩ := hc
      obtain ⟨k, rfl⟩ := Int.eq_ofNat_of_zero_le h0
      cases hx : xs[k]? with
      | none => simp [hx] at hc
      | some b =>
        obtain ⟨hu, s1, s2⟩ := (Bks.canTake_iff hx).1 h2
        have ht := Bks.takeB_taken hx h2
        have hyv : Bks.validB ys t = true := by rw [← h1]; exact Bks.takeB_valid hv
        rw [ht] at h1
        have hg := Bks.give_take (size := size) hv hx hu s2
        have hf := Bks.taken_free (size := size) hx hu s2
        rw [h1] at hg hf
        have r1 := Bks.free_range hv xs.length (Nat.le_refl _)
        have r2 := Bks.free_range hyv ys.length (Nat.le_refl _)
        rw [freeW_free hv, freeW_free hyv]
        rw [Bks.free_eq] at r1 r2
        exact ⟨rfl, hyv, hf, hg.1, hg.2, by omega, by omega⟩

set_option maxRecDepth 100000 in
set_option maxHeartbeats 2000000 in
theorem takeBlockLaw_walk (A : Option Addr) (n c : Nat) (w : World) (h : Bytes w w.heap.size A n) (hc : n ≤ c) (hn : n ≤ 9223372036854775807) :
    Calls Try.prog 6 #[.slice A n c] w fun e w' => e = .returned (.bool true) ∧ Below w.heap.size w w' := by
  by_cases hs : n ≤ 1048576
  · have hs' : decide ((1048576 : Int) < (n : Int)) = false := by simp; omega
    go_enter Try.func6, Try.ntmps6
    go_wp2_with fail
    refine (drawTakeBlock_any _ _ _ _ h hc hn).mono ?_
    rintro e w1 ⟨v, xs, T, num, q, rfl, o1, ha, l1, l2, t1, t2, ⟨k1, k2⟩, q1, q2, b1⟩
    obtain ⟨A1, c1, rfl, f1⟩ := o1.form
    have hcap := o1.cap.2
    clear f1
    have HA := Lib.hid ha
    clear ha
    obtain ⟨ys, hys⟩ : ∃ ys, (if Bks.validB xs T = true then Bks.takeB xs num q else []) = ys := ⟨_, rfl⟩
    obtain ⟨ok, hok⟩ : ∃ ok, (Bks.validB xs T && Bks.canTake xs num q) = ok := ⟨_, rfl⟩
    have HCA := Lib.hid (take_cases xs T num q ys ok hys hok)
    have hla : AllI ys := by rw [← hys]; exact take_all xs T num q
    have hln : ys.length ≤ 256 := by rw [← hys]; exact take_len xs T num q
    have HY := Lib.hid hys
    have HO := Lib.hid hok
    have HYA := Lib.hid hla
    clear hys hok hla
    go_wp2_with fail
    refine (takeBlock_any _ _ _ xs _ _ _ _ (o1.reads HA.out) (by omega) hcap).mono ?_
    rw [HY.out, HO.out]
    rintro e w2 ⟨v2, rfl, p2, b2⟩
    have bb2 := b1.trans (b2.mono b1.size)
    have o2 := o1.below b2 (Nat.le_refl _)
    clear o1
    go_wp2_with fail
    refine (mTakeBlock_any _ _ _ xs _ _ _ _ (o2.reads HA.out) (by omega) hcap).mono ?_
    rw [HY.out, HO.out]
    rintro e w3 ⟨v3, rfl, p3, b3⟩
    have bb3 := bb2.trans (b3.mono bb2.size)
    have o3 := o2.below b3 (Nat.le_refl _)
    have p2 := p2.below b3 (Nat.le_refl _)
    obtain ⟨A2, c2, rfl, f2⟩ := p2.form
    obtain ⟨A3, c3, rfl, f3⟩ := p3.form
    have hcap2 := p2.cap.2
    clear f2 f3 o2
    go_wp2_with fail
    refine (sameBlocks_any _ _ _ _ _ _ ys ys _ (p2.reads HYA.out) (p3.reads HYA.out) (by omega) (by omega)).mono ?_
    rw [decide_eq_true rfl]
    rintro e w4 ⟨rfl, b4⟩
    have bb4 := bb3.trans (b4.mono bb3.size)
    have o4 := o3.below b4 (Nat.le_refl _)
    have p4 := p2.below b4 (Nat.le_refl _)
    clear o3 p2 p3 b2 b3 b4
    rcases HCA.out with ⟨rfl, rfl | rfl⟩ | ⟨rfl, hyv, hfr, hgb, hcg, hf1, hf2⟩
    · go_wp2_with fail
      refine (alive_any _).mono ?_
      rintro e w5 ⟨rfl, b5⟩
      go_wp2_with fail
      go_ret
      exact ⟨rfl, bb4.trans (b5.mono bb4.size)⟩
    · have hne : ((ys.length : Int) == 0) = false := by rw [beq_eq_false_iff_ne]; omega
      go_wp2_with fail
      refine (sameBlocks_any _ _ _ _ _ _ ys ys _ (p4.reads HYA.out) (o4.reads HYA.out) (by omega) (by omega)).mono ?_
      rw [decide_eq_true rfl]
      rintro e w5 ⟨rfl, b5⟩
      have bb5 := bb4.trans (b5.mono bb4.size)
      go_wp2_with fail
      refine (alive_any _).mono ?_
      rintro e w6 ⟨rfl, b6⟩
      go_wp2_with fail
      go_ret
      exact ⟨rfl, bb5.trans (b6.mono bb5.size)⟩
    · have HYV := Lib.hid hyv
      have HGB := Lib.hid (show (if Bks.validB ys T = true then Bks.giveB ys num else []) = xs ∧ (Bks.validB ys T && Bks.canGive ys num) = true by rw [hyv, hcg, if_pos rfl]; exact ⟨hgb, rfl⟩)
      have HFR := Lib.hid hfr
      obtain ⟨fx, hfx⟩ : ∃ fx, Bks.freeW xs T = fx := ⟨_, rfl⟩
      rw [hfr, hfx] at hf2
      rw [hfx] at hf1
      rw [hfx] at HFR
      have HFX := Lib.hid hfx
      clear hyv hgb hcg hfr hfx
      go_wp2_with fail
      refine (giveBlock_any _ _ _ ys _ _ _ (p4.reads HYA.out) (by omega) hcap2).mono ?_
      rw [HGB.out.1, HGB.out.2]
      rintro e w5 ⟨v5, rfl, p5, b5⟩
      have bb5 := bb4.trans (b5.mono bb4.size)
      have o5 := o4.below b5 (Nat.le_refl _)
      have p6 := p4.below b5 (Nat.le_refl _)
      obtain ⟨A5, c5, rfl, f5⟩ := p5.form
      clear f5 o4 p4
      go_wp2_with fail
      refine (blocksValid_any _ _ _ ys _ _ (p6.reads HYA.out) (by omega)).mono ?_
      rw [HYV.out]
      rintro e w6 ⟨rfl, b6⟩
      have bb6 := bb5.trans (b6.mono bb5.size)
      have o6 := o5.below b6 (Nat.le_refl _)
      have p7 := p6.below b6 (Nat.le_refl _)
      have r6 := p5.below b6 (Nat.le_refl _)
      go_wp2_with fail
      refine (freeWords_any _ _ _ ys _ _ (p7.reads HYA.out) (by omega)).mono ?_
      rw [HFR.out]
      rintro e w7 ⟨rfl, b7⟩
      have bb7 := bb6.trans (b7.mono bb6.size)
      have o7 := o6.below b7 (Nat.le_refl _)
      have r7 := r6.below b7 (Nat.le_refl _)
      go_wp2_with fail
      refine (freeWords_any _ _ _ xs _ _ (o7.reads HA.out) (by omega)).mono ?_
      rw [HFX.out]
      rintro e w8 ⟨rfl, b8⟩
      have bb8 := bb7.trans (b8.mono bb7.size)
      have o8 := o7.below b8 (Nat.le_refl _)
      have r8 := r7.below b8 (Nat.le_refl _)
      have heq : (fx - q == fx - q) = true := by simp
      go_wp2_with fail
      refine (sameBlocks_any _ _ _ _ _ _ xs xs _ (r8.reads HA.out) (o8.reads HA.out) (by omega) (by omega)).mono ?_
      rw [decide_eq_true rfl]
      rintro e w9 ⟨rfl, b9⟩
      go_wp2_with fail
      go_ret
      exact ⟨rfl, bb8.trans (b9.mono bb8.size)⟩
  · go_enter Try.func6, Try.ntmps6
    go_wp2
    go_ret
    exact ⟨rfl, Below.refl _ _⟩

/-- taking where a block fits -/
theorem take_fits {xs : List Bl} {t size : Int} {k : Nat} {x : Bl} (hv : Bks.validB xs t = true) (hx : xs[k]? = some x) (hf : Bks.fits size x = true) (h1 : 1 ≤ size) :
    (if Bks.validB xs t = true then Bks.takeB xs k size else []) = Bks.taken xs k x size ∧ (Bks.validB xs t && Bks.canTake xs k size) = true ∧ Bks.validB (Bks.taken xs k x size) t = true ∧ Bks.freeW (Bks.taken xs k x size) t = Bks.freeW xs t - size := by
  rw [Bks.fits_iff] at hf
  have hcan := (Bks.canTake_iff hx).2 ⟨hf.1, h1, hf.2⟩
  have ht := Bks.takeB_taken hx hcan
  have hyv : Bks.validB (Bks.taken xs k x size) t = true := Bks.taken_valid hv hx hf.1 h1 hf.2
  refine ⟨by rw [if_pos hv]; exact ht, by rw [hv, hcan]; rfl, hyv, ?_⟩
  rw [freeW_free hv, freeW_free hyv, Bks.taken_free hx hf.1 hf.2]

set_option maxRecDepth 100000 in
set_option maxHeartbeats 2000000 in
theorem fitsBothLaw_walk (A : Option Addr) (n c : Nat) (w : World) (h : Bytes w w.heap.size A n) (hc : n ≤ c) (hn : n ≤ 9223372036854775807) :
    Calls Try.prog 9 #[.slice A n c] w fun e w' => e = .returned (.bool true) ∧ Below w.heap.size w w' := by
  by_cases hs : n ≤ 1048576
  · have hs' : decide ((1048576 : Int) < (n : Int)) = false := by simp; omega
    go_enter Try.func9, Try.ntmps9
    go_wp2_with fail
    refine (drawBestFit_any _ _ _ _ h hc hn).mono ?_
    rintro e w1 ⟨v, xs, T, q, rfl, o1, ha, l1, l2, t1, t2, q1, q2, b1⟩
    obtain ⟨A1, c1, rfl, f1⟩ := o1.form
    have hcap := o1.cap.2
    clear f1
    have HA := Lib.hid ha
    clear ha
    obtain ⟨B, hB⟩ : ∃ B, Bks.bestW xs T q = B := ⟨_, rfl⟩
    obtain ⟨F, hF⟩ : ∃ F, Bks.firstW xs T q = F := ⟨_, rfl⟩
    have hcases := best_cases xs T q
    rw [hB, hF] at hcases
    have HCA := Lib.hid hcases
    have HB := Lib.hid hB
    have HF := Lib.hid hF
    clear hB hF hcases
    go_wp2_with fail
    refine (bestFit_any _ _ _ xs _ _ _ (o1.reads HA.out) (by omega)).mono ?_
    rw [HB.out]
    rintro e w2 ⟨rfl, b2⟩
    have bb2 := b1.trans (b2.mono b1.size)
    have o2 := o1.below b2 (Nat.le_refl _)
    go_wp2_with fail
    refine (mBestFit_any _ _ _ xs _ _ _ (o2.reads HA.out) (by omega)).mono ?_
    rw [HB.out]
    rintro e w3 ⟨rfl, b3⟩
    have bb3 := bb2.trans (b3.mono bb2.size)
    have o3 := o2.below b3 (Nat.le_refl _)
    clear o1 o2 b1 b2 b3 bb2
    rcases HCA.out with ⟨rfl, rfl⟩ | ⟨b, y, rfl, hy, hyu, hyz, hF0, hv, s1, s2, hbest⟩
    · go_wp2_with fail
      refine (alive_any _).mono ?_
      rintro e w5 ⟨rfl, b5⟩
      go_wp2_with fail
      go_ret
      exact ⟨rfl, bb3.trans (b5.mono bb3.size)⟩
    · obtain ⟨f, xf, rfl, hxf, hff⟩ : ∃ (f : Nat) (xf : Bl), F = f ∧ xs[f]? = some xf ∧ Bks.fits q xf = true := by
        rcases Bks.first_or xs q with hno | ⟨k, x, hx, hfx, hpre⟩
        · have := hno b y hy
          rw [(Bks.fits_iff q y).2 ⟨hyu, hyz⟩] at this
          cases this
        · refine ⟨k, x, ?_, hx, hfx⟩
          rw [← HF.out, Bks.firstW, if_pos ⟨hv, s1, s2⟩, Bks.firstIdx_some xs q 0 k x hx hfx hpre]
          omega
      have hfy : Bks.fits q y = true := (Bks.fits_iff q y).2 ⟨hyu, hyz⟩
      obtain ⟨x1, x2, x3, x4⟩ := take_fits hv hxf hff s1
      obtain ⟨y1, y2, y3, y4⟩ := take_fits hv hy hfy s1
      have hbl := Bks.best_largest hv hxf hy hff s1 hbest
      obtain ⟨LA, hLA⟩ : ∃ LA, Bks.largeW (Bks.taken xs f xf q) T = LA := ⟨_, rfl⟩
      obtain ⟨LB, hLB⟩ : ∃ LB, Bks.largeW (Bks.taken xs b y q) T = LB := ⟨_, rfl⟩
      have hle : LA ≤ LB := by
        rw [← hLA, ← hLB, Bks.largeW, Bks.largeW, if_pos x3, if_pos y3]
        exact hbl
      have ax : AllI (Bks.taken xs f xf q) := valid_all_ x3
      have ay : AllI (Bks.taken xs b y q) := valid_all_ y3
      have nx := (Bks.valid_len x3).2.1
      have ny := (Bks.valid_len y3).2.1
      generalize Bks.taken xs f xf q = ya at *
      generalize Bks.taken xs b y q = yb at *
      have X1 := Lib.hid x1
      have X2 := Lib.hid x2
      have X4 := Lib.hid x4
      have Y1 := Lib.hid y1
      have Y2 := Lib.hid y2
      have Y4 := Lib.hid y4
      have HLA := Lib.hid hLA
      have HLB := Lib.hid hLB
      have AX := Lib.hid ax
      have AY := Lib.hid ay
      obtain ⟨fx, hfx⟩ : ∃ fx, Bks.freeW xs T - q = fx := ⟨_, rfl⟩
      rw [hfx] at X4 Y4
      clear x1 x2 x3 x4 y1 y2 y3 y4 hLA hLB ax ay hv hbest hxf hff hfy hy hyu hbl hfx HB
      go_wp2_with fail
      refine (firstFit_any _ _ _ xs _ _ _ (o3.reads HA.out) (by omega)).mono ?_
      rw [HF.out]
      rintro e w4 ⟨rfl, b4⟩
      have bb4 := bb3.trans (b4.mono bb3.size)
      have o4 := o3.below b4 (Nat.le_refl _)
      clear o3 b4 bb3
      go_wp2_with fail
      refine (takeBlock_any _ _ _ xs _ _ _ _ (o4.reads HA.out) (by omega) hcap).mono ?_
      rw [X1.out, X2.out]
      rintro e w5 ⟨v5, rfl, p5, b5⟩
      have bb5 := bb4.trans (b5.mono bb4.size)
      have o5 := o4.below b5 (Nat.le_refl _)
      clear o4 b5 bb4
      go_wp2_with fail
      refine (takeBlock_any _ _ _ xs _ _ _ _ (o5.reads HA.out) (by omega) hcap).mono ?_
      rw [Y1.out, Y2.out]
      rintro e w6 ⟨v6, rfl, p6, b6⟩
      have bb6 := bb5.trans (b6.mono bb5.size)
      have p5 := p5.below b6 (Nat.le_refl _)
      clear o5 b6 bb5
      obtain ⟨A5, c5, rfl, f5⟩ := p5.form
      obtain ⟨A6, c6, rfl, f6⟩ := p6.form
      clear f5 f6
      go_wp2_with fail
      refine (freeWords_any _ _ _ ya _ _ (p5.reads AX.out) (by omega)).mono ?_
      rw [X4.out]
      rintro e w7 ⟨rfl, b7⟩
      have bb7 := bb6.trans (b7.mono bb6.size)
      have p5 := p5.below b7 (Nat.le_refl _)
      have p6 := p6.below b7 (Nat.le_refl _)
      go_wp2_with fail
      refine (freeWords_any _ _ _ yb _ _ (p6.reads AY.out) (by omega)).mono ?_
      rw [Y4.out]
      rintro e w8 ⟨rfl, b8⟩
      have bb8 := bb7.trans (b8.mono bb7.size)
      have p5 := p5.below b8 (Nat.le_refl _)
      have p6 := p6.below b8 (Nat.le_refl _)
      go_wp2_with fail
      refine (largestFree_any _ _ _ yb _ _ (p6.reads AY.out) (by omega)).mono ?_
      rw [HLB.out]
      rintro e w9 ⟨rfl, b9⟩
      have bb9 := bb8.trans (b9.mono bb8.size)
      have p5 := p5.below b9 (Nat.le_refl _)
      go_wp2_with fail
      refine (largestFree_any _ _ _ ya _ _ (p5.reads AX.out) (by omega)).mono ?_
      rw [HLA.out]
      rintro e w10 ⟨rfl, b10⟩
      go_wp2_with fail
      go_ret
      exact ⟨rfl, bb9.trans (b10.mono bb9.size)⟩
  · go_enter Try.func9, Try.ntmps9
    go_wp2
    go_ret
    exact ⟨rfl, Below.refl _ _⟩
end Go.Proofs.Ytfffilgghogiaaa
