/- The laws of ClassSize (P29), ClassFor (P30) and SlabWaste (P34) return true: for every list of bytes. -/
import Derived.Test.YtaacoedmlfcdbaaDoorSd
import Derived.Test.YtaacoedmlfcdbaaDoorSe
namespace Go.Proofs.YtaacoedmlfcdbaaDoor
open Go.RowKit

set_option maxHeartbeats 2000000 in
theorem classSizeLaw_walk (A : Option Addr) (n c : Nat) (w : World) (h : Bytes w w.heap.size A n) (hc : n ≤ c) (hn : n ≤ 9223372036854775807) (hT : ClsT w) :
    Calls Tryd.prog 3 #[.slice A n c] w fun e w' => e = .returned (.bool true) ∧ Below w.heap.size w w' := by
  by_cases hs : n ≤ 1048576
  · have hs' : decide ((1048576 : Int) < (n : Int)) = false := by simp; omega
    go_enter Tryd.func3, Tryd.ntmps3
    go_wp2_with fail
    refine (drawClassSize_any _ _ _ _ h hc hn).mono ?_
    rintro e w1 ⟨q, rfl, q0, q1, b1⟩
    by_cases hq : 0 ≤ q ∧ q ≤ 7
    · obtain ⟨k, rfl⟩ := Int.eq_ofNat_of_zero_le hq.1
      have hk : k ≤ 7 := by omega
      have HC := Lib.hid (Sl.clsW_nat hk)
      have hbd := Sl.clsN_bd hk
      obtain ⟨v, hv⟩ : ∃ v, Sl.clsN k = v := ⟨_, rfl⟩
      have hnx := fun hh : k < 7 => Sl.clsN_succ hh
      rw [hv] at HC hbd hnx
      obtain ⟨v1, v2, _⟩ := hbd
      have hv0 : decide (v < 0) = false := decide_eq_false (by omega)
      clear hq
      go_wp2_with fail
      refine (classSize_any _ _ (hT.below b1)).mono ?_
      rw [HC.out]
      rintro e w2 ⟨rfl, b2⟩
      have bb2 := b1.trans (b2.mono b1.size)
      go_wp2_with fail
      refine (mClassSize_any _ _).mono ?_
      rw [HC.out]
      rintro e w3 ⟨rfl, b3⟩
      have bb3 := bb2.trans (b3.mono bb2.size)
      clear b1 b2 b3 bb2
      by_cases hk7 : k = 7
      · subst hk7
        clear hnx hv
        go_wp2_with fail
        go_ret
        exact ⟨rfl, bb3⟩
      · have hk8 : ((k : Int) == 7) = false := by rw [beq_eq_false_iff_ne]; omega
        have hk6 : k + 1 ≤ 7 := by omega
        have HC2 := Lib.hid (Sl.clsW_nat hk6)
        have hlt := hnx (by omega)
        obtain ⟨v', hv'⟩ : ∃ v', Sl.clsN (k + 1) = v' := ⟨_, rfl⟩
        rw [hv'] at HC2 hlt
        have HC3 := Lib.hid (show Sl.clsW ((k : Int) + 1) = v' from HC2.out)
        clear hnx hv hv' hk7
        go_wp2_with fail
        refine (classSize_any _ _ (hT.below bb3)).mono ?_
        rw [HC3.out]
        rintro e w4 ⟨rfl, b4⟩
        go_wp2_with fail
        go_ret
        exact ⟨rfl, bb3.trans (b4.mono bb3.size)⟩
    · have HC := Lib.hid (Sl.clsW_other hq)
      clear hq
      go_wp2_with fail
      refine (classSize_any _ _ (hT.below b1)).mono ?_
      rw [HC.out]
      rintro e w2 ⟨rfl, b2⟩
      have bb2 := b1.trans (b2.mono b1.size)
      go_wp2_with fail
      refine (mClassSize_any _ _).mono ?_
      rw [HC.out]
      rintro e w3 ⟨rfl, b3⟩
      have bb3 := bb2.trans (b3.mono bb2.size)
      go_wp2_with fail
      refine (alive_any _).mono ?_
      rintro e w4 ⟨rfl, b4⟩
      go_wp2_with fail
      go_ret
      exact ⟨rfl, bb3.trans (b4.mono bb3.size)⟩
  · go_enter Tryd.func3, Tryd.ntmps3
    go_wp2
    go_ret
    exact ⟨rfl, Below.refl _ _⟩

set_option maxHeartbeats 2000000 in
theorem classForLaw_walk (A : Option Addr) (n c : Nat) (w : World) (h : Bytes w w.heap.size A n) (hc : n ≤ c) (hn : n ≤ 9223372036854775807) (hT : ClsT w) :
    Calls Tryd.prog 4 #[.slice A n c] w fun e w' => e = .returned (.bool true) ∧ Below w.heap.size w w' := by
  by_cases hs : n ≤ 1048576
  · have hs' : decide ((1048576 : Int) < (n : Int)) = false := by simp; omega
    go_enter Tryd.func4, Tryd.ntmps4
    go_wp2_with fail
    refine (drawClassFor_any _ _ _ _ h hc hn).mono ?_
    rintro e w1 ⟨q, rfl, q0, q1, b1⟩
    rcases Sl.forW_cases q with ⟨hr, hf⟩ | ⟨k, hk, h1, h2, h3, hf⟩
    · have HF := Lib.hid hf
      have HC7 := Lib.hid (show Sl.clsW 7 = 16 from rfl)
      clear hf
      go_wp2_with fail
      refine (classFor_any _ _ (hT.below b1)).mono ?_
      rw [HF.out]
      rintro e w2 ⟨rfl, b2⟩
      have bb2 := b1.trans (b2.mono b1.size)
      go_wp2_with fail
      refine (mClassFor_any _ _).mono ?_
      rw [HF.out]
      rintro e w3 ⟨rfl, b3⟩
      have bb3 := bb2.trans (b3.mono bb2.size)
      clear b1 b2 b3 bb2
      by_cases hq1 : q < 1
      · go_wp2_with fail
        refine (alive_any _).mono ?_
        rintro e w4 ⟨rfl, b4⟩
        go_wp2_with fail
        go_ret
        exact ⟨rfl, bb3.trans (b4.mono bb3.size)⟩
      · have hq1' : decide (q < 1) = false := decide_eq_false hq1
        have hq16 : (16 : Int) < q := by omega
        clear hr
        go_wp2_with fail
        refine (classSize_any _ _ (hT.below bb3)).mono ?_
        rw [HC7.out]
        rintro e w4 ⟨rfl, b4⟩
        have bb4 := bb3.trans (b4.mono bb3.size)
        go_wp2_with fail
        refine (alive_any _).mono ?_
        rintro e w5 ⟨rfl, b5⟩
        go_wp2_with fail
        go_ret
        exact ⟨rfl, bb4.trans (b5.mono bb4.size)⟩
    · have HF := Lib.hid hf
      have HC := Lib.hid (Sl.clsW_nat hk)
      have hk0 : decide ((k : Int) < 0) = false := decide_eq_false (by omega)
      obtain ⟨v, hv⟩ : ∃ v, Sl.clsN k = v := ⟨_, rfl⟩
      rw [hv] at h2 HC
      clear hf hv
      go_wp2_with fail
      refine (classFor_any _ _ (hT.below b1)).mono ?_
      rw [HF.out]
      rintro e w2 ⟨rfl, b2⟩
      have bb2 := b1.trans (b2.mono b1.size)
      go_wp2_with fail
      refine (mClassFor_any _ _).mono ?_
      rw [HF.out]
      rintro e w3 ⟨rfl, b3⟩
      have bb3 := bb2.trans (b3.mono bb2.size)
      clear b1 b2 b3 bb2
      by_cases hkz : k = 0
      · subst hkz
        clear h3 hk0
        go_wp2_with fail
        refine (classSize_any _ _ (hT.below bb3)).mono ?_
        rw [show Sl.clsW 0 = v from HC.out]
        rintro e w4 ⟨rfl, b4⟩
        go_wp2_with fail
        go_ret
        exact ⟨rfl, bb3.trans (b4.mono bb3.size)⟩
      · obtain ⟨d, rfl⟩ : ∃ d, k = d + 1 := ⟨k - 1, by omega⟩
        have hkz' : ((d : Int) + 1 == 0) = false := by rw [beq_eq_false_iff_ne]; omega
        have hkz2 : (((d + 1 : Nat) : Int) == 0) = false := by rw [beq_eq_false_iff_ne]; omega
        have hlt := h3.resolve_left hkz
        rw [Nat.add_sub_cancel] at hlt
        have HC2 := Lib.hid (Sl.clsW_nat (k := d) (by omega))
        obtain ⟨v', hv'⟩ : ∃ v', Sl.clsN d = v' := ⟨_, rfl⟩
        rw [hv'] at HC2 hlt
        have hd1 : ((d + 1 : Nat) : Int) - 1 = d := by omega
        clear h3 hkz hv'
        go_wp2_with fail
        refine (classSize_any _ _ (hT.below bb3)).mono ?_
        rw [show ((d : Int) + 1) = ((d + 1 : Nat) : Int) from rfl, HC.out]
        rintro e w4 ⟨rfl, b4⟩
        have bb4 := bb3.trans (b4.mono bb3.size)
        go_wp2_with fail
        refine (classSize_any _ _ (hT.below bb4)).mono ?_
        rw [HC2.out]
        rintro e w5 ⟨rfl, b5⟩
        go_wp2_with fail
        go_ret
        exact ⟨rfl, bb4.trans (b5.mono bb4.size)⟩
  · go_enter Tryd.func4, Tryd.ntmps4
    go_wp2
    go_ret
    exact ⟨rfl, Below.refl _ _⟩

namespace Sl
theorem waste_lt {s : Int} {k : Nat} (hk : k ≤ 7) (h : s ≤ clsN k) (hm : k = 0 ∨ clsN (k - 1) < s) (h1 : 1 ≤ s) : 2 * (clsN k - s) < clsN k := by
  obtain rfl | rfl | rfl | rfl | rfl | rfl | rfl | rfl := cases8 hk <;> simp [clsN] at h hm ⊢ <;> omega
theorem waste_cls {k : Nat} (hk : k ≤ 7) : wasteW (clsN k) = 0 := by
  rw [wasteW, (clsN_bd hk).2.2, if_neg (by omega), clsW_nat hk]
  omega
end Sl

set_option maxHeartbeats 2000000 in
theorem slabWasteLaw_walk (A : Option Addr) (n c : Nat) (w : World) (h : Bytes w w.heap.size A n) (hc : n ≤ c) (hn : n ≤ 9223372036854775807) (hT : ClsT w) :
    Calls Tryd.prog 6 #[.slice A n c] w fun e w' => e = .returned (.bool true) ∧ Below w.heap.size w w' := by
  by_cases hs : n ≤ 1048576
  · have hs' : decide ((1048576 : Int) < (n : Int)) = false := by simp; omega
    go_enter Tryd.func6, Tryd.ntmps6
    go_wp2_with fail
    refine (drawSlabWaste_any _ _ _ _ h hc hn).mono ?_
    rintro e w1 ⟨q, rfl, q0, q1, b1⟩
    rcases Sl.forW_cases q with ⟨hr, hf⟩ | ⟨k, hk, h1, h2, h3, hf⟩
    · have HW := Lib.hid (show Sl.wasteW q = -1 by rw [Sl.wasteW, hf, if_pos (by omega)])
      have HF := Lib.hid hf
      clear hf hr
      go_wp2_with fail
      refine (slabWaste_any _ _ (hT.below b1)).mono ?_
      rw [HW.out]
      rintro e w2 ⟨rfl, b2⟩
      have bb2 := b1.trans (b2.mono b1.size)
      go_wp2_with fail
      refine (mSlabWaste_any _ _).mono ?_
      rw [HW.out]
      rintro e w3 ⟨rfl, b3⟩
      have bb3 := bb2.trans (b3.mono bb2.size)
      go_wp2_with fail
      refine (classFor_any _ _ (hT.below bb3)).mono ?_
      rw [HF.out]
      rintro e w4 ⟨rfl, b4⟩
      have bb4 := bb3.trans (b4.mono bb3.size)
      go_wp2_with fail
      refine (alive_any _).mono ?_
      rintro e w5 ⟨rfl, b5⟩
      go_wp2_with fail
      go_ret
      exact ⟨rfl, bb4.trans (b5.mono bb4.size)⟩
    · have HC := Lib.hid (Sl.clsW_nat hk)
      have hlt := Sl.waste_lt hk h2 h3 h1
      have hz := Sl.waste_cls hk
      have hbd := (Sl.clsN_bd hk).2.1
      obtain ⟨v, hv⟩ : ∃ v, Sl.clsN k = v := ⟨_, rfl⟩
      rw [hv] at h2 HC hlt hz hbd
      have HW := Lib.hid (show Sl.wasteW q = v - q by rw [Sl.wasteW, hf, if_neg (by omega), HC.out])
      have HZ := Lib.hid hz
      have HF := Lib.hid hf
      have hk0 : decide ((k : Int) < 0) = false := decide_eq_false (by omega)
      obtain ⟨m, hm⟩ : ∃ m, v - q = m := ⟨_, rfl⟩
      rw [hm] at HW hlt
      clear hf hv hz h3
      go_wp2_with fail
      refine (slabWaste_any _ _ (hT.below b1)).mono ?_
      rw [HW.out]
      rintro e w2 ⟨rfl, b2⟩
      have bb2 := b1.trans (b2.mono b1.size)
      go_wp2_with fail
      refine (mSlabWaste_any _ _).mono ?_
      rw [HW.out]
      rintro e w3 ⟨rfl, b3⟩
      have bb3 := bb2.trans (b3.mono bb2.size)
      go_wp2_with fail
      refine (classFor_any _ _ (hT.below bb3)).mono ?_
      rw [HF.out]
      rintro e w4 ⟨rfl, b4⟩
      have bb4 := bb3.trans (b4.mono bb3.size)
      clear b1 b2 b3 b4 bb2 bb3
      go_wp2_with fail
      refine (classSize_any _ _ (hT.below bb4)).mono ?_
      rw [HC.out]
      rintro e w5 ⟨rfl, b5⟩
      have bb5 := bb4.trans (b5.mono bb4.size)
      go_wp2_with fail
      refine (classSize_any _ _ (hT.below bb5)).mono ?_
      rw [HC.out]
      rintro e w6 ⟨rfl, b6⟩
      have bb6 := bb5.trans (b6.mono bb5.size)
      go_wp2_with fail
      refine (classSize_any _ _ (hT.below bb6)).mono ?_
      rw [HC.out]
      rintro e w7 ⟨rfl, b7⟩
      have bb7 := bb6.trans (b7.mono bb6.size)
      go_wp2_with fail
      refine (slabWaste_any _ _ (hT.below bb7)).mono ?_
      rw [HZ.out]
      rintro e w8 ⟨rfl, b8⟩
      go_wp2_with fail
      go_ret
      exact ⟨rfl, bb7.trans (b8.mono bb7.size)⟩
  · go_enter Tryd.func6, Tryd.ntmps6
    go_wp2
    go_ret
    exact ⟨rfl, Below.refl _ _⟩
end Go.Proofs.YtaacoedmlfcdbaaDoor
