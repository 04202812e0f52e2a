/- What the model's Fragmented, SlideBlocks and TakeSliding return: for every slice of blocks and all numbers. -/
import Derived.Test.YtkejbggffbkdaaaFra
import Derived.Test.YtkejbggffbkdaaaWs
import Derived.Test.YtkejbggffbkdaaaWu

namespace Go.Proofs.Ytkejbggffbkdaaa
open Go.RowKit

theorem firstIdx_bd' : ∀ (xs : List Bl) (size : Int) (o : Nat), -1 ≤ Bks.firstIdx xs size o ∧ Bks.firstIdx xs size o < (o + xs.length : Nat) + 1
  | [], _, _ => ⟨by simp [Bks.firstIdx], by simp [Bks.firstIdx]; omega⟩
  | x :: xs, size, o => by
    obtain ⟨h1, h2⟩ := firstIdx_bd' xs size (o + 1)
    unfold Bks.firstIdx
    split
    · exact ⟨by omega, by simp; omega⟩
    · exact ⟨h1, by simp at h2 ⊢; omega⟩
theorem firstW_bd' (xs : List Bl) (t size : Int) (h : xs.length ≤ 1000) : -1 ≤ Bks.firstW xs t size ∧ Bks.firstW xs t size ≤ 1001 := by
  obtain ⟨h1, h2⟩ := firstIdx_bd' xs size 0
  unfold Bks.firstW
  split
  · exact ⟨h1, by omega⟩
  · exact ⟨by omega, by omega⟩
/-- blocks of the call's own, and a number -/
def GaveBN (w : World) (xs : List Bl) (m : Int) (e : Ending) (w' : World) : Prop := ∃ v, e = .returned (.tuple #[v, .int .i64 m]) ∧ OwnB w' w.heap.size v xs ∧ Below w.heap.size w w'
theorem GaveBN.of {w w' : World} {v : Value} {ys zs : List Bl} {m m' : Int} (ho : OwnB w' w.heap.size v ys) (hb : Below w.heap.size w w') (e1 : ys = zs) (e3 : m = m') : GaveBN w zs m' (.returned (.tuple #[v, .int .i64 m])) w' := by
  subst e1 e3
  exact ⟨v, rfl, ho, hb⟩

set_option maxHeartbeats 2000000 in
theorem mSlideBlocks_any (A : Option Addr) (n c : Nat) (xs : List Bl) (t : Int) (w : World) (h : BS w w.heap.size A n xs) (hn : n ≤ 1099511627776) :
    Calls Try.prog 18 #[.slice A n c, .int .i64 t] w (GaveBN w (Bks.slideW xs t) (Bks.movW xs t)) := by
  have hl := h.1
  have o0 := own_none w w.heap.size (Nat.le_refl _)
  have b0 : Below w.heap.size w (w.alloc (.cells #[] 32)) := (Below.refl _ _).alloc (Nat.le_refl _) _
  have r0 := h.up b0
  cases hv : Bks.validB xs t
  · have HS := Lib.hid (show Bks.slideW xs t = [] by rw [Bks.slideW, hv]; rfl)
    have HM := Lib.hid (show Bks.movW xs t = -1 by rw [Bks.movW, hv]; rfl)
    have HV := Lib.hid hv
    clear hv
    go_enter Try.func18, Try.ntmps18
    go_wp2_with fail
    refine (mBlocksValid_any _ _ _ xs _ _ r0 hn).mono ?_
    rw [HV.out]
    rintro e w1 ⟨rfl, b1⟩
    have o1 := o0.below b1 (Nat.le_refl _)
    go_wp2_with fail
    go_ret2
    exact GaveBN.of o1 (b0.trans (b1.mono b0.size)) HS.out.symm HM.out.symm
  · have HS := Lib.hid (show Bks.slideW xs t = Bks.slideB xs t by rw [Bks.slideW, hv]; rfl)
    have HM := Lib.hid (show Bks.movW xs t = Bks.movS xs n by rw [Bks.movW, hv, hl]; rfl)
    have HV := Lib.hid hv
    obtain ⟨a1, a2, a3, a4, a5⟩ := Bks.atS_all hv
    rw [hl] at a1 a2
    have hle := (Bks.valid_len hv).2.1
    clear hv
    go_enter Try.func18, Try.ntmps18
    go_wp2_with fail
    refine (mBlocksValid_any _ _ _ xs _ _ r0 hn).mono ?_
    rw [HV.out]
    rintro e w1 ⟨rfl, b1⟩
    have o1 := o0.below b1 (Nat.le_refl _)
    have bb1 := b0.trans (b1.mono b0.size)
    clear o0 r0 b1
    go_wp2_with fail
    go_loopw [6, 7, 8, 9] (fun v a m i wr => ∃ k : Nat, k ≤ n ∧ i = .int .i64 k ∧ a = .int .i64 (Bks.atS xs k) ∧ m = .int .i64 (Bks.movS xs k) ∧ OwnB wr w.heap.size v (Bks.slL xs k) ∧ Below w.heap.size w wr) (fun _ _ _ i _ => n - (intOf i).toNat)
    case atStart => exact ⟨0, Nat.zero_le _, rfl, rfl, rfl, o1, bb1⟩
    case round =>
      clear o1 bb1 b0
      obtain ⟨k, hk, rfl, rfl, rfl, ho, hb⟩ := hrel
      have hsl := Bks.slL_len_le xs k
      obtain ⟨mo0, mo1⟩ := Bks.mov_le HV.out k (by omega)
      obtain ⟨at1, at0⟩ := Bks.atS_free_eq HV.out k (by omega)
      have hfr := Bks.free_range HV.out k (by omega)
      have at2 : Bks.atS xs k ≤ 256 := by omega
      have mo2 : Bks.movS xs k ≤ 256 := by omega
      clear at1 hfr
      by_cases hlt : k < n
      · obtain ⟨g, o, x, rfl, hg, hx, i1, i2, d1, d2, d3⟩ := h.at_ hlt
        have c1 := (hb.cell (p := ⟨g, o + k * 3, none⟩) hg).trans d1
        have c2 := (hb.cell (p := ⟨g, o + k * 3 + 1, none⟩) hg).trans d2
        have c3 := (hb.cell (p := ⟨g, o + k * 3 + 2, none⟩) hg).trans d3
        have hlt' : (k : Int) < n := by omega
        have hva := Bks.valid_at HV.out hx
        have hz1 : 1 ≤ x.z := by omega
        have hz2 : x.z ≤ 256 := by omega
        clear hva
        cases hu : x.u
        · have HN1 := Lib.hid (Bks.slL_free hx hu)
          have HN2 := Lib.hid (Bks.atS_free hx hu)
          have HN3 := Lib.hid (Bks.movS_free hx hu)
          rw [hu] at c3
          clear hx hu c1 c2
          go_wp2_with fail
          go_roundw
          case rel => exact ⟨k + 1, by omega, by go_num, by rw [HN2.out], by rw [HN3.out], by rw [HN1.out]; exact ho, hb⟩
          case measure => simp [intOf]; omega
        · have HN := Lib.hid (Bks.slL_used hx hu)
          have HN2 := Lib.hid (Bks.atS_used hx hu)
          rw [hu] at c3
          have ow := World.ownsRow.alloc ho (.cells #[.int .i64 (Bks.atS xs k), .int .i64 x.z, .bool true] 32)
          have rr : BS (wr.alloc (.cells #[.int .i64 (Bks.atS xs k), .int .i64 x.z, .bool true] 32)) (wr.alloc (.cells #[.int .i64 (Bks.atS xs k), .int .i64 x.z, .bool true] 32)).heap.size (some ⟨wr.heap.size, 0, none⟩) 1 [⟨Bks.atS xs k, x.z, true⟩] := (own_one wr _ _ _ 0 (Nat.zero_le _)).reads (allI_one (by omega) (by omega) (by omega) (by omega))
          have hsz := hb.size
          have hyn : (Bks.slL xs k).length + 1 ≤ 1099511627776 := by omega
          by_cases hs : x.s = Bks.atS xs k
          · have HN3 := Lib.hid (Bks.movS_stay hx hs)
            have hne : (x.s != Bks.atS xs k) = false := by rw [bne_eq_false_iff_eq]; exact hs
            clear hx hu hs d1 d3
            go_wp2_with (at_builtin; refine wpList_appendB rfl (.tmp 42) (.tmp 50) rfl w.heap.size _ _ rfl ow (some ⟨wr.heap.size, 0, none⟩) 1 1 _ [⟨Bks.atS xs k, x.z, true⟩] rfl rr hyn (by simp; omega) ?_; intro v5 w5 o5 g5 s5; have bn : Below w.heap.size w w5 := (hb.alloc hb.size _).grown g5 (by simp; omega) (fun k hk => (World.ownsRow.lt ho k hk).1); have e2 := (bn.cell (p := ⟨g, o + k * 3 + 1, none⟩) hg).trans d2; clear g5 s5)
            go_roundw
            case rel => exact ⟨k + 1, by omega, by go_num, by rw [HN2.out], by rw [HN3.out], OwnB.cast HN.out.symm o5, bn⟩
            case measure => simp [intOf]; omega
          · have HN3 := Lib.hid (Bks.movS_move hx hu hs)
            have hne : (x.s != Bks.atS xs k) = true := by rw [bne_iff_ne]; exact hs
            clear hx hu hs d1 d3
            go_wp2_with (at_builtin; refine wpList_appendB rfl (.tmp 42) (.tmp 50) rfl w.heap.size _ _ rfl ow (some ⟨wr.heap.size, 0, none⟩) 1 1 _ [⟨Bks.atS xs k, x.z, true⟩] rfl rr hyn (by simp; omega) ?_; intro v5 w5 o5 g5 s5; have bn : Below w.heap.size w w5 := (hb.alloc hb.size _).grown g5 (by simp; omega) (fun k hk => (World.ownsRow.lt ho k hk).1); have e2 := (bn.cell (p := ⟨g, o + k * 3 + 1, none⟩) hg).trans d2; clear g5 s5)
            go_roundw
            case rel => exact ⟨k + 1, by omega, by go_num, by rw [HN2.out], by rw [HN3.out], OwnB.cast HN.out.symm o5, bn⟩
            case measure => simp [intOf]; omega
      · obtain rfl : k = n := by omega
        by_cases hat : Bks.atS xs k < t
        · have HE := Lib.hid (show Bks.slideB xs t = Bks.slL xs k ++ [⟨Bks.atS xs k, t - Bks.atS xs k, false⟩] by rw [Bks.slideB, hl, if_pos hat])
          have ow := World.ownsRow.alloc ho (.cells #[.int .i64 (Bks.atS xs k), .int .i64 (t - Bks.atS xs k), .bool false] 32)
          have rr : BS (wr.alloc (.cells #[.int .i64 (Bks.atS xs k), .int .i64 (t - Bks.atS xs k), .bool false] 32)) (wr.alloc (.cells #[.int .i64 (Bks.atS xs k), .int .i64 (t - Bks.atS xs k), .bool false] 32)).heap.size (some ⟨wr.heap.size, 0, none⟩) 1 [⟨Bks.atS xs k, t - Bks.atS xs k, false⟩] := (own_one wr _ _ _ 0 (Nat.zero_le _)).reads (allI_one (by omega) (by omega) (by omega) (by omega))
          have hsz := hb.size
          have hyn : (Bks.slL xs k).length + 1 ≤ 1099511627776 := by omega
          go_wp2_with (at_builtin; refine wpList_appendB rfl (.tmp 62) (.tmp 68) rfl w.heap.size _ _ rfl ow (some ⟨wr.heap.size, 0, none⟩) 1 1 _ [⟨Bks.atS xs k, t - Bks.atS xs k, false⟩] rfl rr hyn (by simp; omega) ?_; intro v5 w5 o5 g5 s5)
          have bn : Below w.heap.size w w5 := (hb.alloc hb.size _).grown g5 (by simp; omega) (fun k hk => (World.ownsRow.lt ho k hk).1)
          go_ret2
          exact GaveBN.of o5 bn (by rw [HS.out, HE.out]) HM.out.symm
        · have HE := Lib.hid (show Bks.slideB xs t = Bks.slL xs k by rw [Bks.slideB, hl, if_neg hat])
          have hat' : decide (Bks.atS xs k < t) = false := decide_eq_false hat
          go_wp2_with fail
          go_ret2
          exact GaveBN.of ho hb (by rw [HS.out, HE.out]) HM.out.symm

set_option maxHeartbeats 1000000 in
theorem mFragmented_any (A : Option Addr) (n c : Nat) (xs : List Bl) (t : Int) (w : World) (h : BS w w.heap.size A n xs) (hn : n ≤ 1099511627776) :
    Calls Try.prog 12 #[.slice A n c, .int .i64 t] w fun e w' => e = .returned (.int .i64 (Bks.fragW xs t)) ∧ Below w.heap.size w w' := by
  cases hv : Bks.validB xs t
  · have HF := Lib.hid (show Bks.freeW xs t = -1 by rw [Bks.freeW, hv]; rfl)
    have HR := Lib.hid (show Bks.fragW xs t = -1 by rw [Bks.fragW, hv]; rfl)
    clear hv
    go_enter Try.func12, Try.ntmps12
    go_wp2_with fail
    refine (mFreeWords_any _ _ _ xs _ _ h hn).mono ?_
    rw [HF.out]
    rintro e w1 ⟨rfl, b1⟩
    go_wp2_with fail
    go_ret
    exact ⟨by rw [HR.out]; rfl, b1⟩
  · have hr := Bks.free_range hv xs.length (Nat.le_refl _)
    have hfw : Bks.freeW xs t = Bks.free xs := by rw [Bks.freeW, hv, Bks.free_eq]; rfl
    have hlw : Bks.largeW xs t = Bks.maxTo xs xs.length := by rw [Bks.largeW, hv]; rfl
    rw [Bks.free_eq] at hr
    obtain ⟨r1, r2, r3, r4, r5⟩ := hr
    have HL := Lib.hid hlw
    by_cases h0 : Bks.free xs = 0
    · have HR := Lib.hid (show Bks.fragW xs t = 0 by rw [Bks.fragW, hv, h0]; rfl)
      have HF := Lib.hid (show Bks.freeW xs t = 0 by rw [hfw, h0])
      clear hv hfw hlw
      go_enter Try.func12, Try.ntmps12
      go_wp2_with fail
      refine (mFreeWords_any _ _ _ xs _ _ h hn).mono ?_
      rw [HF.out]
      rintro e w1 ⟨rfl, b1⟩
      go_wp2_with fail
      go_ret
      exact ⟨by rw [HR.out]; rfl, b1⟩
    · have HR := Lib.hid (show Bks.fragW xs t = 100 * (Bks.free xs - Bks.maxTo xs xs.length) / Bks.free xs by rw [Bks.fragW, hv, if_pos rfl, if_neg h0])
      obtain ⟨f, hf⟩ : ∃ f, Bks.free xs = f := ⟨_, rfl⟩
      obtain ⟨m, hm⟩ : ∃ m, Bks.maxTo xs xs.length = m := ⟨_, rfl⟩
      rw [hf] at hfw h0 HR r1 r2 r4
      rw [hm] at HL HR r3 r4
      have HF := Lib.hid hfw
      have h1 : 1 ≤ f := by omega
      have h2 : f ≤ 256 := by omega
      have hle : decide (f ≤ 0) = false := decide_eq_false (by omega)
      have hne : (f == 0) = false := by rw [beq_eq_false_iff_ne]; exact h0
      have hd : (100 * (f - m)).tdiv f = 100 * (f - m) / f := Int.tdiv_eq_ediv_of_nonneg (by omega)
      have HW := Lib.hid (show wrap64 (100 * (f - m) / f) = 100 * (f - m) / f by
        have q0 : 0 ≤ 100 * (f - m) / f := Int.ediv_nonneg (by omega) (by omega)
        have q1 : 100 * (f - m) / f < 101 := Int.ediv_lt_of_lt_mul (by omega) (by omega)
        unfold wrap64
        omega)
      clear hv hfw hlw hf hm h0 r2 r5
      go_enter Try.func12, Try.ntmps12
      go_wp2_with fail
      refine (mFreeWords_any _ _ _ xs _ _ h hn).mono ?_
      rw [HF.out]
      rintro e w1 ⟨rfl, b1⟩
      have o1 := h.up b1
      go_wp2_with fail
      refine (mLargestFree_any _ _ _ xs _ _ o1 hn).mono ?_
      rw [HL.out]
      rintro e w2 ⟨rfl, b2⟩
      go_wp2_with fail
      go_ret
      exact ⟨by rw [HR.out, HW.out]; rfl, b1.trans (b2.mono b1.size)⟩

set_option maxHeartbeats 2000000 in
theorem mTakeSliding_any (A : Option Addr) (n c : Nat) (xs : List Bl) (t size : Int) (w : World) (h : BS w w.heap.size A n xs) (hn : n ≤ 1099511627776) (hc : n ≤ c) :
    Calls Try.prog 23 #[.slice A n c, .int .i64 t, .int .i64 size] w (GaveB2 w (Bks.tsW xs t size) (Bks.tsOk xs t size)) := by
  have hl := h.1
  cases hv : Bks.validB xs t
  · have HS := Lib.hid (show Bks.tsW xs t size = [] by rw [Bks.tsW, hv]; rfl)
    have HM := Lib.hid (show Bks.tsOk xs t size = false by rw [Bks.tsOk, hv]; rfl)
    have HV := Lib.hid hv
    clear hv
    go_enter Try.func23, Try.ntmps23
    go_wp2_with fail
    refine (mBlocksValid_any _ _ _ xs _ _ h hn).mono ?_
    rw [HV.out]
    rintro e w1 ⟨rfl, b1⟩
    have o1 := own_none w1 w.heap.size b1.size
    have bb1 := b1.alloc b1.size (.cells #[] 32)
    go_wp2_with fail
    go_ret2
    exact GaveB.two ⟨o1, bb1⟩ _ _ _ HS.out.symm HM.out.symm
  · have hle := (Bks.valid_len hv).2.1
    have HV := Lib.hid hv
    have hfb := firstW_bd' xs t size (by omega)
    obtain ⟨f, hf⟩ : ∃ f, Bks.firstW xs t size = f := ⟨_, rfl⟩
    by_cases h0 : 0 ≤ f
    · obtain ⟨q1, _, _, _, _⟩ := Bks.first_take hv (by rw [hf]; exact h0)
      rw [hf] at q1 hfb
      have HS := Lib.hid (show Bks.tsW xs t size = Bks.takeB xs f size by rw [Bks.tsW, hv, if_pos rfl, Bks.tsB, hf, if_pos h0])
      have HM := Lib.hid (show Bks.tsOk xs t size = true by rw [Bks.tsOk, hv, hf, decide_eq_true h0]; rfl)
      have HT := Lib.hid (show (if Bks.validB xs t = true then Bks.takeB xs f size else []) = Bks.tsW xs t size by rw [HS.out, hv, if_pos rfl])
      have HO := Lib.hid (show (Bks.validB xs t && Bks.canTake xs f size) = Bks.tsOk xs t size by rw [HM.out, hv, q1]; rfl)
      have HF := Lib.hid hf
      clear hv hf q1
      go_enter Try.func23, Try.ntmps23
      go_wp2_with fail
      refine (mBlocksValid_any _ _ _ xs _ _ h hn).mono ?_
      rw [HV.out]
      rintro e w1 ⟨rfl, b1⟩
      have o1 := h.up b1
      go_wp2_with fail
      refine (mFirstFit_any _ _ _ xs _ _ _ o1 hn).mono ?_
      rw [HF.out]
      rintro e w2 ⟨rfl, b2⟩
      have bb2 := b1.trans (b2.mono b1.size)
      have o2 := o1.up b2
      go_wp2_with fail
      refine (mTakeBlock_any _ _ _ xs _ _ _ _ o2 hn hc).mono ?_
      rw [HT.out, HO.out]
      rintro e w3 ⟨v3, rfl, o3, b3⟩
      go_wp2_with fail
      go_ret2
      exact GaveB.two ⟨o3.base bb2.size, bb2.trans (b3.mono bb2.size)⟩ _ _ _ rfl rfl
    · have h0' : decide ((0 : Int) ≤ f) = false := decide_eq_false h0
      have hsv := Bks.slide_valid hv
      have hsle := (Bks.valid_len hsv).2.1
      obtain ⟨ys, hys⟩ : ∃ ys, Bks.slideB xs t = ys := ⟨_, rfl⟩
      obtain ⟨m, hm⟩ : ∃ m, Bks.movW xs t = m := ⟨_, rfl⟩
      obtain ⟨f2, hf2⟩ : ∃ f2, Bks.firstW ys t size = f2 := ⟨_, rfl⟩
      rw [hys] at hsv hsle
      have hfb2 := firstW_bd' ys t size (by omega)
      have HYA := Lib.hid (valid_all_ hsv)
      have HYS := Lib.hid (show Bks.slideW xs t = ys by rw [Bks.slideW, hv, if_pos rfl, hys])
      have HMV := Lib.hid hm
      have HF := Lib.hid hf
      have HF2 := Lib.hid hf2
      rw [hf] at hfb
      rw [hf2] at hfb2
      by_cases h2 : 0 ≤ f2
      · obtain ⟨q1, _, _, _, _⟩ := Bks.first_take hsv (by rw [hf2]; exact h2)
        rw [hf2] at q1
        have HS := Lib.hid (show Bks.tsW xs t size = Bks.takeB ys f2 size by rw [Bks.tsW, hv, if_pos rfl, Bks.tsB, hf, if_neg h0, hys, hf2, if_pos h2])
        have HM := Lib.hid (show Bks.tsOk xs t size = true by rw [Bks.tsOk, hv, hys, hf2, decide_eq_true h2]; simp)
        have HT := Lib.hid (show (if Bks.validB ys t = true then Bks.takeB ys f2 size else []) = Bks.tsW xs t size by rw [HS.out, hsv, if_pos rfl])
        have HO := Lib.hid (show (Bks.validB ys t && Bks.canTake ys f2 size) = Bks.tsOk xs t size by rw [HM.out, hsv, q1]; rfl)
        clear hv hf q1 hsv hys hm hf2
        go_enter Try.func23, Try.ntmps23
        go_wp2_with fail
        refine (mBlocksValid_any _ _ _ xs _ _ h hn).mono ?_
        rw [HV.out]
        rintro e w1 ⟨rfl, b1⟩
        have o1 := h.up b1
        go_wp2_with fail
        refine (mFirstFit_any _ _ _ xs _ _ _ o1 hn).mono ?_
        rw [HF.out]
        rintro e w2 ⟨rfl, b2⟩
        have bb2 := b1.trans (b2.mono b1.size)
        have o2 := o1.up b2
        go_wp2_with fail
        refine (mSlideBlocks_any _ _ _ xs _ _ o2 hn).mono ?_
        rw [HYS.out, HMV.out]
        rintro e w3 ⟨v3, rfl, o3, b3⟩
        have bb3 := bb2.trans (b3.mono bb2.size)
        obtain ⟨A3, c3, rfl, f3⟩ := o3.form
        have hc3 := o3.cap.2
        have r3 := o3.reads HYA.out
        clear f3
        go_wp2_with fail
        refine (mFirstFit_any _ _ _ ys _ _ _ r3 (by omega)).mono ?_
        rw [HF2.out]
        rintro e w4 ⟨rfl, b4⟩
        have bb4 := bb3.trans (b4.mono bb3.size)
        have r4 := r3.up b4
        go_wp2_with fail
        refine (mTakeBlock_any _ _ _ ys _ _ _ _ r4 (by omega) hc3).mono ?_
        rw [HT.out, HO.out]
        rintro e w5 ⟨v5, rfl, o5, b5⟩
        go_wp2_with fail
        go_ret2
        exact GaveB.two ⟨o5.base bb4.size, bb4.trans (b5.mono bb4.size)⟩ _ _ _ rfl rfl
      · have h2' : decide ((0 : Int) ≤ f2) = false := decide_eq_false h2
        have HS := Lib.hid (show Bks.tsW xs t size = xs by rw [Bks.tsW, hv, if_pos rfl, Bks.tsB, hf, if_neg h0, hys, hf2, if_neg h2])
        have HM := Lib.hid (show Bks.tsOk xs t size = false by rw [Bks.tsOk, hv, hys, hf2, hf, h0', h2']; rfl)
        clear hv hf hsv hys hm hf2
        go_enter Try.func23, Try.ntmps23
        go_wp2_with fail
        refine (mBlocksValid_any _ _ _ xs _ _ h hn).mono ?_
        rw [HV.out]
        rintro e w1 ⟨rfl, b1⟩
        have o1 := h.up b1
        go_wp2_with fail
        refine (mFirstFit_any _ _ _ xs _ _ _ o1 hn).mono ?_
        rw [HF.out]
        rintro e w2 ⟨rfl, b2⟩
        have bb2 := b1.trans (b2.mono b1.size)
        have o2 := o1.up b2
        go_wp2_with fail
        refine (mSlideBlocks_any _ _ _ xs _ _ o2 hn).mono ?_
        rw [HYS.out, HMV.out]
        rintro e w3 ⟨v3, rfl, o3, b3⟩
        have bb3 := bb2.trans (b3.mono bb2.size)
        obtain ⟨A3, c3, rfl, f3⟩ := o3.form
        have r3 := o3.reads HYA.out
        clear f3
        go_wp2_with fail
        refine (mFirstFit_any _ _ _ ys _ _ _ r3 (by omega)).mono ?_
        rw [HF2.out]
        rintro e w4 ⟨rfl, b4⟩
        have bb4 := bb3.trans (b4.mono bb3.size)
        have on := own_none w4 w.heap.size bb4.size
        have bl := bb4.alloc bb4.size (.cells #[] 32)
        have r4 := h.below bl
        clear o1 o2 o3 r3
        go_wp2_with (at_builtin; refine wpList_appendB rfl (.tmp 49) (.tmp 50) rfl w.heap.size _ [] rfl on A n c w.heap.size xs rfl r4 (by simp <;> omega) (by simp; have := bb4.size; omega) ?_; intro v2 w2 o2 g2 s2)
        go_ret2
        exact GaveB.two ⟨o2, bl.grown g2 (by simp; have := bb4.size; omega) (fun k hk => (World.ownsRow.lt on k hk).1)⟩ _ _ _ (by rw [HS.out]; rfl) HM.out.symm
end Go.Proofs.Ytkejbggffbkdaaa
