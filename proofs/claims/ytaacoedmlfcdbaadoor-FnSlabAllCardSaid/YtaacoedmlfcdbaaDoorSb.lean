/- What the model's ClassSize, ClassFor, SlabWaste and SlabValid return: for all numbers. -/
import Derived.Test.YtaacoedmlfcdbaaDoorSa
namespace Go.Proofs.YtaacoedmlfcdbaaDoor
open Go.RowKit

set_option maxHeartbeats 1000000 in
theorem mClassSize_any (c : Int) (w : World) : Calls Tryd.prog 14 #[.int .i64 c] w fun e w' => e = .returned (.int .i64 (Sl.clsW c)) ∧ Below w.heap.size w w' := by
  by_cases hc : 0 ≤ c ∧ c ≤ 7
  · obtain ⟨k, rfl⟩ := Int.eq_ofNat_of_zero_le hc.1
    obtain rfl | rfl | rfl | rfl | rfl | rfl | rfl | rfl := Sl.cases8 (show k ≤ 7 by omega)
    all_goals
      go_enter Tryd.func14, Tryd.ntmps14
      go_wp2_with fail
      refine (l1In_any _ _ _ _).mono ?_
      rintro e w' ⟨rfl, rfl⟩
      go_wp2_with fail
      go_ret
      exact ⟨rfl, (Below.refl _ _).alloc (Nat.le_refl _) _⟩
  · have HV := Lib.hid (Sl.clsW_other hc)
    have hd : (decide ((0 : Int) ≤ c) && decide (c ≤ 7)) = false := by
      cases h : (decide ((0 : Int) ≤ c) && decide (c ≤ 7))
      · rfl
      · simp at h; exact absurd h hc
    go_enter Tryd.func14, Tryd.ntmps14
    go_wp2_with fail
    refine (l1In_any _ _ _ _).mono ?_
    rw [hd]
    rintro e w' ⟨rfl, rfl⟩
    clear hc hd
    go_wp2_with fail
    go_ret
    exact ⟨by rw [HV.out]; rfl, Below.refl _ _⟩

set_option maxHeartbeats 1000000 in
theorem mClassFor_any (s : Int) (w : World) : Calls Tryd.prog 18 #[.int .i64 s] w fun e w' => e = .returned (.int .i64 (Sl.forW s)) ∧ Below w.heap.size w w' := by
  go_enter Tryd.func18, Tryd.ntmps18
  go_wp2_with fail
  go_loopw [3] (fun i wr => ∃ k : Nat, k ≤ 8 ∧ i = .int .i64 k ∧ (k = 0 ∨ Sl.clsN (k - 1) < s) ∧ Below w.heap.size w wr) (fun i _ => 8 - (intOf i).toNat)
  case atStart => exact ⟨0, by omega, rfl, .inl rfl, Below.refl _ _⟩
  case round =>
    obtain ⟨k, hk, rfl, hm, hb⟩ := hrel
    have HM := Lib.hid hm
    clear hm
    by_cases h1 : 1 ≤ s
    · by_cases hk8 : k = 8
      · subst hk8
        have HR := Lib.hid (Sl.forW_none (s := s) (by have := HM.out; simp [Sl.clsN] at this; omega))
        go_wp2_with fail
        go_ret
        exact ⟨by rw [HR.out]; rfl, hb⟩
      · have hk7 : (k : Int) ≤ 7 := by omega
        have hkn : k ≤ 7 := by omega
        have HC := Lib.hid (Sl.clsW_nat hkn)
        clear hk8
        obtain ⟨v, hv⟩ : ∃ v, Sl.clsN k = v := ⟨_, rfl⟩
        have HV := Lib.hid hv
        clear hv
        go_wp2_with fail
        refine (mClassSize_any _ _).mono ?_
        rw [HC.out, HV.out]
        rintro e w1 ⟨rfl, b1⟩
        have bb := hb.trans (b1.mono hb.size)
        by_cases hv : s ≤ v
        · have HR := Lib.hid (Sl.forW_at hkn h1 (by rw [HV.out]; exact hv) HM.out)
          go_wp2_with fail
          go_ret
          exact ⟨by rw [HR.out]; rfl, bb⟩
        · have hv' : decide (s ≤ v) = false := decide_eq_false hv
          go_wp2
          go_roundw
          case rel => exact ⟨k + 1, by omega, by go_num, .inr (by rw [Nat.add_sub_cancel, HV.out]; omega), bb⟩
          case measure => simp [intOf]; omega
    · have HR := Lib.hid (Sl.forW_none (s := s) (by omega))
      have h1' : decide ((1 : Int) ≤ s) = false := decide_eq_false h1
      clear h1
      by_cases hk7 : (k : Int) ≤ 7
      · go_wp2_with fail
        go_ret
        exact ⟨by rw [HR.out]; rfl, hb⟩
      · have hk7' : decide ((k : Int) ≤ 7) = false := decide_eq_false hk7
        go_wp2_with fail
        go_ret
        exact ⟨by rw [HR.out]; rfl, hb⟩

set_option maxHeartbeats 1000000 in
theorem mSlabWaste_any (s : Int) (w : World) : Calls Tryd.prog 26 #[.int .i64 s] w fun e w' => e = .returned (.int .i64 (Sl.wasteW s)) ∧ Below w.heap.size w w' := by
  rcases Sl.forW_cases s with ⟨_, hf⟩ | ⟨k, hk, h1, h2, _, hf⟩
  · have HW := Lib.hid (show Sl.wasteW s = -1 by rw [Sl.wasteW, hf, if_pos (by omega)])
    have HF := Lib.hid hf
    clear hf
    go_enter Tryd.func26, Tryd.ntmps26
    go_wp2_with fail
    refine (mClassFor_any _ _).mono ?_
    rw [HF.out]
    rintro e w1 ⟨rfl, b1⟩
    go_wp2_with fail
    go_ret
    exact ⟨by rw [HW.out]; rfl, b1⟩
  · have HC := Lib.hid (Sl.clsW_nat hk)
    have hbd := Sl.clsN_bd hk
    obtain ⟨v, hv⟩ : ∃ v, Sl.clsN k = v := ⟨_, rfl⟩
    rw [hv] at h2 hbd HC
    have HW := Lib.hid (show Sl.wasteW s = v - s by rw [Sl.wasteW, hf, if_neg (by omega), HC.out])
    have HF := Lib.hid hf
    have b0 := hbd.2.1
    clear hf hbd hv
    go_enter Tryd.func26, Tryd.ntmps26
    go_wp2_with fail
    refine (mClassFor_any _ _).mono ?_
    rw [HF.out]
    rintro e w1 ⟨rfl, b1⟩
    go_wp2_with fail
    refine (mClassSize_any _ _).mono ?_
    rw [HC.out]
    rintro e w2 ⟨rfl, b2⟩
    go_wp2_with fail
    go_ret
    exact ⟨by rw [HW.out]; rfl, b1.trans (b2.mono b1.size)⟩

/-- a slab as a value -/
abbrev slabV (c u : Int) : Value := .agg #[.int .i64 c, .int .i64 u]

set_option maxHeartbeats 1000000 in
theorem mSlabValid_box (c u : Int) (w : World) : Calls Tryd.prog 27 #[slabV c u] w fun e w' => e = .returned (.bool (Sl.okS c u)) ∧ w' = w.alloc (.cells #[.int .i64 c, .int .i64 u] 28) := by
  obtain ⟨b1, h1⟩ : ∃ b, (decide ((0 : Int) ≤ c) && decide (c ≤ 7)) = b := ⟨_, rfl⟩
  obtain ⟨b2, h2⟩ : ∃ b, (decide ((0 : Int) ≤ u) && decide (u ≤ 255)) = b := ⟨_, rfl⟩
  have HV := Lib.hid (show Sl.okS c u = (b1 && b2) by rw [Sl.okS, h1, h2])
  have H1 := Lib.hid h1
  have H2 := Lib.hid h2
  clear h1 h2
  cases b1
  · go_enter Tryd.func27, Tryd.ntmps27
    go_wp2_with fail
    refine (l1In_any _ _ _ _).mono ?_
    rw [H1.out]
    rintro e w' ⟨rfl, rfl⟩
    go_wp2_with fail
    go_ret
    exact ⟨by rw [HV.out]; rfl, rfl⟩
  · go_enter Tryd.func27, Tryd.ntmps27
    go_wp2_with fail
    refine (l1In_any _ _ _ _).mono ?_
    rw [H1.out]
    rintro e w' ⟨rfl, rfl⟩
    go_wp2_with fail
    refine (l1In_any _ _ _ _).mono ?_
    rw [H2.out]
    rintro e w' ⟨rfl, rfl⟩
    go_wp2_with fail
    go_ret
    exact ⟨by rw [HV.out]; rfl, rfl⟩
theorem mSlabValid_any (c u : Int) (w : World) : Calls Tryd.prog 27 #[slabV c u] w fun e w' => e = .returned (.bool (Sl.okS c u)) ∧ Below w.heap.size w w' :=
  (mSlabValid_box c u w).mono fun _ _ h => ⟨h.1, by rw [h.2]; exact (Below.refl _ _).alloc (Nat.le_refl _) _⟩
end Go.Proofs.YtaacoedmlfcdbaaDoor
