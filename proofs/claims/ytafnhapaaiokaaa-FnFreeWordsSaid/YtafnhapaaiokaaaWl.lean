/- The law of FreeWords (P17) returns true: for every list of bytes. -/
import Derived.Test.YtafnhapaaiokaaaWk
import Derived.Test.YtafnhapaaiokaaaWords
namespace Go.Proofs.Ytafnhapaaiokaaa
open Go.RowKit

set_option maxHeartbeats 2000000 in
theorem freeWordsLaw_walk (A : Option Addr) (n c : Nat) (w : World) (h : Bytes w w.heap.size A n) (hc : n ≤ c) (hn : n ≤ 9223372036854775807) :
    Calls Try.prog 5 #[.slice A n c] w fun e w' => e = .returned (.bool true) ∧ Below w.heap.size w w' := by
  by_cases hs : n ≤ 1048576
  · have hs' : decide ((1048576 : Int) < (n : Int)) = false := by simp; omega
    go_enter Try.func5, Try.ntmps5
    go_wp2_with fail
    refine (drawFreeWords_any _ _ _ _ h hc hn).mono ?_
    rintro e w1 ⟨v, xs, T, rfl, o1, ha, l1, l2, t1, t2, b1⟩
    obtain ⟨A1, c1, rfl, f1⟩ := o1.form
    clear f1
    go_wp2_with fail
    refine (freeWords_any _ _ _ xs _ _ (o1.reads ha) (by omega)).mono ?_
    rintro e w2 ⟨rfl, b2⟩
    have bb2 := b1.trans (b2.mono b1.size)
    have o2 := o1.below b2 (Nat.le_refl _)
    go_wp2_with fail
    refine (mFreeWords_any _ _ _ xs _ _ (o2.reads ha) (by omega)).mono ?_
    rintro e w3 ⟨rfl, b3⟩
    have bb3 := bb2.trans (b3.mono bb2.size)
    have o3 := o2.below b3 (Nat.le_refl _)
    clear o1 o2 b1 b2 b3 bb2
    cases hv : Bks.validB xs T
    · have e1 : Bks.freeW xs T = -1 := by simp [Bks.freeW, hv]
      rw [e1]
      clear e1 hv
      go_wp2_with fail
      refine (alive_any _).mono ?_
      rintro e w4 ⟨rfl, b4⟩
      go_wp2_with fail
      go_ret
      exact ⟨rfl, bb3.trans (b4.mono bb3.size)⟩
    · have e1 : Bks.freeW xs T = Bks.freeTo xs xs.length := by simp [Bks.freeW, hv]
      have e2 : Bks.largeW xs T = Bks.maxTo xs xs.length := by simp [Bks.largeW, hv]
      obtain ⟨q1, q2, q3, q4, q5⟩ := Bks.free_range hv xs.length (Nat.le_refl _)
      have HV := Lib.hid hv
      have HE2 := Lib.hid e2
      rw [e1]
      obtain ⟨tn, rfl⟩ := Int.eq_ofNat_of_zero_le (show 0 ≤ T by omega)
      have HF := Lib.hid (Bks.freeWords_all hv)
      clear hv e1 e2
      have HR3 := Lib.hid (o3.reads ha)
      have HO3 := Lib.hid o3
      clear o3 ha
      go_wp2_with fail
      go_loopw [6, 7] (fun f i wr => ∃ q : Nat, q ≤ tn ∧ i = .int .i64 q ∧ f = .int .i64 (Bks.freeWords xs q) ∧ Below w3.heap.size w3 wr) (fun _ i _ => tn - (intOf i).toNat)
      case atStart => exact ⟨0, Nat.zero_le _, rfl, rfl, Below.refl _ _⟩
      case round =>
        obtain ⟨q, hq, rfl, rfl, hb⟩ := hrel
        obtain ⟨g1, g2⟩ := Bks.freeWords_bd xs q
        by_cases hlt : q < tn
        · obtain ⟨k, x, hx, hat, hcn, k1, k2, hk⟩ := Bks.block_of (q := (q : Int)) HV.out (by omega) (by omega)
          have HN := Lib.hid (show Bks.freeWords xs (q + 1) = Bks.freeWords xs q + if x.u = true then 0 else 1 by
            show Bks.freeWords xs q + (if Bks.freeAt xs q = true then 1 else 0) = _
            rw [Bks.freeAt_eq hcn hx]
            cases x.u <;> simp)
          have HAT := Lib.hid hat
          have HXX := Lib.hid hx
          clear hat hx hcn k1 k2
          go_wp2_with fail
          refine (blockAt_any _ _ _ xs _ _ _ (HR3.out.up hb) (by omega)).mono ?_
          rw [HAT.out]
          rintro e w4 ⟨rfl, b4⟩
          have bb4 := hb.trans (b4.mono hb.size)
          obtain ⟨g', o', x', rfl, _, hx', _, _, _, _, d3⟩ := (HR3.out.up bb4).at_ hk
          have hxe : x' = x := Option.some.inj (hx'.symm.trans HXX.out)
          subst hxe
          clear hx'
          cases hu : x'.u
          all_goals
            rw [hu] at d3
            have HU := Lib.hid hu
            clear hu
            go_wp2
            go_roundw
            case rel => exact ⟨q + 1, by omega, by go_num, by rw [HN.out, HU.out]; first | rfl | simp, bb4⟩
            case measure => simp [intOf]; omega
        · have hqe : q = tn := by omega
          have HQ := Lib.hid hqe
          have HFQ := Lib.hid (show Bks.freeWords xs q = Bks.freeTo xs xs.length by rw [hqe]; simpa using HF.out)
          clear hqe
          have hbq : (Bks.freeWords xs q == Bks.freeTo xs xs.length) = true := by rw [beq_iff_eq]; exact HFQ.out
          go_wp2_with fail
          refine (largestFree_any _ _ _ xs _ _ (HR3.out.up hb) (by omega)).mono ?_
          rw [HE2.out]
          rintro e w4 ⟨rfl, b4⟩
          go_wp2
          go_ret
          exact ⟨rfl, bb3.trans ((hb.trans (b4.mono hb.size)).mono bb3.size)⟩
  · go_enter Try.func5, Try.ntmps5
    go_wp2
    go_ret
    exact ⟨rfl, Below.refl _ _⟩
end Go.Proofs.Ytafnhapaaiokaaa
