/- What the program's Fragmented, SlideBlocks and TakeSliding return: for every slice of blocks and all numbers. -/
import Derived.Test.YtkejbggffbkdaaaFrb
import Derived.Test.YtkejbggffbkdaaaRwk
import Derived.StillTailTactics
namespace Go.Proofs.Ytkejbggffbkdaaa
open Go.RowKit

set_option maxHeartbeats 1000000 in
theorem fragmented_any (A : Option Addr) (n c : Nat) (xs : List Bl) (t : Int) (w : World) (h : BS w w.heap.size A n xs) (hn : n ≤ 1099511627776) :
    Calls Try.prog 11 #[.slice A n c, .int .i64 t] w fun e w' => e = .returned (.int .i64 (Bks.fragW xs t)) ∧ Below w.heap.size w w' := by
  cases hv : Bks.validB xs t
  · have HR := Lib.hid (show Bks.fragW xs t = -1 by rw [Bks.fragW, hv]; rfl)
    have HV := Lib.hid hv
    clear hv
    go_enter Try.func11, Try.ntmps11
    go_wp2_with fail
    refine (blocksValid_any _ _ _ xs _ _ h hn).mono ?_
    rw [HV.out]
    rintro e w1 ⟨rfl, b1⟩
    go_wp2_with fail
    go_ret
    exact ⟨by rw [HR.out]; rfl, b1⟩
  · have HV := Lib.hid hv
    have hlen := h.1
    clear hv
    subst hlen
    go_enter Try.func11, Try.ntmps11
    go_wp2_with fail
    refine (blocksValid_any _ _ _ xs _ _ h hn).mono ?_
    rw [HV.out]
    rintro e w1 ⟨rfl, b1⟩
    go_wp2_with fail
    go_loopw [5, 6, 15] (fun a m i wr => ∃ k : Nat, k ≤ xs.length ∧ i = .int .i64 k ∧ a = .int .i64 (Bks.freeTo xs k) ∧ m = .int .i64 (Bks.maxTo xs k) ∧ Below w.heap.size w wr) (fun _ _ i _ => xs.length - (intOf i).toNat)
    case atStart => exact ⟨0, Nat.zero_le _, rfl, rfl, rfl, b1⟩
    case round =>
      obtain ⟨k, hk, rfl, rfl, rfl, hb⟩ := hrel
      obtain ⟨f0, f1, f3, f4, f2⟩ := Bks.free_range HV.out k hk
      by_cases hlt : k < xs.length
      · obtain ⟨g, o, x, rfl, hg, hx, ⟨i1, i2⟩, ⟨i3, i4⟩, c1, c2, c3⟩ := (h.below hb).at_ hlt
        obtain ⟨_, z1, z2, _⟩ := Bks.valid_at HV.out hx
        have HO := Lib.hid (Bks.freeTo_succ xs k x hx)
        have HM := Lib.hid (Bks.maxTo_succ xs k x hx)
        clear hx
        cases hu : x.u
        all_goals
          rw [hu] at c3
          have HU := Lib.hid hu
          clear hu
          go_wp2
          go_roundw
          case rel => exact ⟨k + 1, by omega, by go_num, by rw [HO.out, HU.out]; simp <;> (split <;> omega), by rw [HM.out, HU.out]; simp <;> (split <;> omega), hb.alloc hb.size _⟩
          case measure => simp [intOf]; omega
      · have hkn : k = xs.length := by omega
        subst hkn
        have hfe := Bks.free_eq xs
        have HM2 := Lib.hid (fun h0 => Bks.max_pos HV.out h0)
        have HR := Lib.hid (show Bks.fragW xs t = (if Bks.free xs = 0 then 0 else 100 * (Bks.free xs - Bks.maxTo xs xs.length) / Bks.free xs) by rw [Bks.fragW, HV.out, if_pos rfl])
        rw [hfe] at f0 f1 f4 ⊢
        obtain ⟨f, hf⟩ : ∃ f, Bks.free xs = f := ⟨_, rfl⟩
        obtain ⟨m, hm⟩ : ∃ m, Bks.maxTo xs xs.length = m := ⟨_, rfl⟩
        rw [hf] at f0 f1 f4 HR ⊢
        rw [hm] at f3 f4 HR ⊢
        clear hfe hf hm HM2
        by_cases h0 : f = 0
        · subst h0
          go_wp2
          go_ret
          exact ⟨by rw [HR.out]; rfl, hb⟩
        · have hne : (f == 0) = false := by rw [beq_eq_false_iff_ne]; exact h0
          have h1 : 1 ≤ f := by omega
          have h2 : f ≤ 256 := by omega
          have hd : ((f - m) * 100).tdiv f = 100 * (f - m) / f := by rw [Int.mul_comm]; exact Int.tdiv_eq_ediv_of_nonneg (by omega)
          have HW := Lib.hid (show wrap64 (100 * (f - m) / f) = 100 * (f - m) / f by
            have q0 : 0 ≤ 100 * (f - m) / f := Int.ediv_nonneg (by omega) (by omega)
            have q1 : 100 * (f - m) / f < 101 := Int.ediv_lt_of_lt_mul (by omega) (by omega)
            unfold wrap64
            omega)
          have HE := Lib.hid (show Bks.fragW xs t = 100 * (f - m) / f by rw [HR.out, if_neg h0])
          clear h0 HR
          go_wp2
          go_ret
          exact ⟨by rw [HE.out, HW.out]; rfl, hb⟩

set_option maxHeartbeats 2000000 in
theorem slideBlocks_any (A : Option Addr) (n c : Nat) (xs : List Bl) (t : Int) (w : World) (h : BS w w.heap.size A n xs) (hn : n ≤ 1099511627776) (hc : n ≤ c) :
    Calls Try.prog 14 #[.slice A n c, .int .i64 t] w (GaveBN w (Bks.slideW xs t) (Bks.movW xs t)) := by
  have hl := h.1
  cases hv : Bks.validB xs t
  · have HS := Lib.hid (show Bks.slideW xs t = [] by rw [Bks.slideW, hv]; rfl)
    have HM := Lib.hid (show Bks.movW xs t = -1 by rw [Bks.movW, hv]; rfl)
    have HV := Lib.hid hv
    clear hv
    go_enter Try.func14, Try.ntmps14
    go_wp2_with fail
    refine (blocksValid_any _ _ _ xs _ _ h hn).mono ?_
    rw [HV.out]
    rintro e w1 ⟨rfl, b1⟩
    have o0 : OwnB w1 w.heap.size (.slice none 0 0) [] := World.ownsRow_nil _ _ _ _
    go_wp2_with fail
    go_ret2
    exact GaveBN.of o0 b1 HS.out.symm HM.out.symm
  · have HS := Lib.hid (show Bks.slideW xs t = Bks.slideB xs t by rw [Bks.slideW, hv]; rfl)
    have HM := Lib.hid (show Bks.movW xs t = Bks.movS xs n by rw [Bks.movW, hv, hl]; rfl)
    have HV := Lib.hid hv
    obtain ⟨a1, a2, a3, a4, a5⟩ := Bks.atS_all hv
    rw [hl] at a1 a2
    have hle := (Bks.valid_len hv).2.1
    clear hv
    go_enter Try.func14, Try.ntmps14
    go_wp2_with fail
    refine (blocksValid_any _ _ _ xs _ _ h hn).mono ?_
    rw [HV.out]
    rintro e w1 ⟨rfl, b1⟩
    have o1 : OwnB w1 w.heap.size (.slice none 0 0) (Bks.slL xs 0) := World.ownsRow_nil _ _ _ _
    go_wp2_with fail
    go_loopw [6, 7, 8, 17] (fun v a m i wr => ∃ k : Nat, k ≤ n ∧ i = .int .i64 k ∧ a = .int .i64 (Bks.atS xs k) ∧ m = .int .i64 (Bks.movS xs k) ∧ OwnB wr w.heap.size v (Bks.slL xs k) ∧ Below w.heap.size w wr) (fun _ _ _ i _ => n - (intOf i).toNat)
    case atStart => exact ⟨0, Nat.zero_le _, rfl, rfl, rfl, o1, b1⟩
    case round =>
      clear o1 b1
      obtain ⟨k, hk, rfl, rfl, rfl, ho, hb⟩ := hrel
      have hsl := Bks.slL_len_le xs k
      obtain ⟨mo0, mo1⟩ := Bks.mov_le HV.out k (by omega)
      obtain ⟨at1, at0⟩ := Bks.atS_free_eq HV.out k (by omega)
      have hfr := Bks.free_range HV.out k (by omega)
      have at2 : Bks.atS xs k ≤ 256 := by omega
      have mo2 : Bks.movS xs k ≤ 256 := by omega
      clear at1 hfr
      by_cases hlt : k < n
      · obtain ⟨g, o, x, rfl, hg, hx, i1, i2, c1, c2, c3⟩ := (h.below hb).at_ hlt
        have hlt' : (k : Int) < n := by omega
        have hva := Bks.valid_at HV.out hx
        have hz1 : 1 ≤ x.z := by omega
        have hz2 : x.z ≤ 256 := by omega
        clear hva
        cases hu : x.u
        · have HN1 := Lib.hid (Bks.slL_free hx hu)
          have HN2 := Lib.hid (Bks.atS_free hx hu)
          have HN3 := Lib.hid (Bks.movS_free hx hu)
          rw [hu] at c3
          have ow : OwnB _ _ _ _ := World.ownsRow.alloc ho (.cells #[.int .i64 x.s, .int .i64 x.z, .bool false] 32)
          clear hx hu
          go_wp2_with fail
          go_roundw
          case rel => exact ⟨k + 1, by omega, by go_num, by rw [HN2.out], by rw [HN3.out], by rw [HN1.out]; exact ow, hb.alloc hb.size _⟩
          case measure => simp [intOf]; omega
        · have HN := Lib.hid (Bks.slL_used hx hu)
          have HN2 := Lib.hid (Bks.atS_used hx hu)
          rw [hu] at c3
          have ow : OwnB _ _ _ _ := World.ownsRow.alloc (World.ownsRow.alloc ho (.cells #[.int .i64 x.s, .int .i64 x.z, .bool true] 32)) (.cells #[.int .i64 (Bks.atS xs k), .int .i64 x.z, .bool true] 32)
          have rr := (own_one (wr.alloc (.cells #[.int .i64 x.s, .int .i64 x.z, .bool true] 32)) (Bks.atS xs k) x.z true 0 (Nat.zero_le _)).reads (allI_one (by omega) (by omega) (by omega) (by omega))
          simp only [heap_alloc1] at rr
          have hrw := (Rw.new wr 32 #[.int .i64 x.s, .int .i64 x.z, .bool true]).alloc (.cells #[.int .i64 (Bks.atS xs k), .int .i64 x.z, .bool true] 32)
          have hbb := (hb.alloc hb.size (.cells #[.int .i64 x.s, .int .i64 x.z, .bool true] 32)).alloc (by simp; have := hb.size; omega) (.cells #[.int .i64 (Bks.atS xs k), .int .i64 x.z, .bool true] 32)
          have HNE := Lib.hid (fun (k2 : Nat) hk2 => (World.ownsRow.lt ho k2 hk2))
          have hsz := hb.size
          have hyn : (Bks.slL xs k).length + 1 ≤ 1099511627776 := by omega
          by_cases hs : x.s = Bks.atS xs k
          · have HN3 := Lib.hid (Bks.movS_stay hx hs)
            have hne : (x.s != Bks.atS xs k) = false := by rw [bne_eq_false_iff_eq]; exact hs
            clear hx hu hs
            go_wp2_with (at_builtin; refine wpList_appendB rfl (.tmp 32) (.tmp 37) rfl w.heap.size _ _ rfl ow (some ⟨wr.heap.size + 1, 0, none⟩) 1 1 _ [⟨Bks.atS xs k, x.z, true⟩] rfl rr hyn (by simp; omega) ?_; intro v5 w5 o5 g5 s5; have bn : Below w.heap.size w w5 := hbb.grown g5 (by simp; omega) (fun k hk => (HNE.out k hk).1); have e2 := (hrw.far g5 (fun hh => by have := (HNE.out _ hh.symm).2; omega)).cell 1; simp at e2; clear g5 s5 hrw ow)
            go_roundw
            case rel => exact ⟨k + 1, by omega, by go_num, by rw [HN2.out], by rw [HN3.out], OwnB.cast HN.out.symm o5, bn⟩
            case measure => simp [intOf]; omega
          · have HN3 := Lib.hid (Bks.movS_move hx hu hs)
            have hne : (x.s != Bks.atS xs k) = true := by rw [bne_iff_ne]; exact hs
            clear hx hu hs
            go_wp2_with (at_builtin; refine wpList_appendB rfl (.tmp 32) (.tmp 37) rfl w.heap.size _ _ rfl ow (some ⟨wr.heap.size + 1, 0, none⟩) 1 1 _ [⟨Bks.atS xs k, x.z, true⟩] rfl rr hyn (by simp; omega) ?_; intro v5 w5 o5 g5 s5; have bn : Below w.heap.size w w5 := hbb.grown g5 (by simp; omega) (fun k hk => (HNE.out k hk).1); have e2 := (hrw.far g5 (fun hh => by have := (HNE.out _ hh.symm).2; omega)).cell 1; simp at e2; clear g5 s5 hrw ow)
            go_roundw
            case rel => exact ⟨k + 1, by omega, by go_num, by rw [HN2.out], by rw [HN3.out], OwnB.cast HN.out.symm o5, bn⟩
            case measure => simp [intOf]; omega
      · obtain rfl : k = n := by omega
        by_cases hat : Bks.atS xs k < t
        · have HE := Lib.hid (show Bks.slideB xs t = Bks.slL xs k ++ [⟨Bks.atS xs k, t - Bks.atS xs k, false⟩] by rw [Bks.slideB, hl, if_pos hat])
          have ow := World.ownsRow.alloc ho (.cells #[.int .i64 (Bks.atS xs k), .int .i64 (t - Bks.atS xs k), .bool false] 32)
          have rr : BS (wr.alloc (.cells #[.int .i64 (Bks.atS xs k), .int .i64 (t - Bks.atS xs k), .bool false] 32)) (wr.alloc (.cells #[.int .i64 (Bks.atS xs k), .int .i64 (t - Bks.atS xs k), .bool false] 32)).heap.size (some ⟨wr.heap.size, 0, none⟩) 1 [⟨Bks.atS xs k, t - Bks.atS xs k, false⟩] := (own_one wr _ _ _ 0 (Nat.zero_le _)).reads (allI_one (by omega) (by omega) (by omega) (by omega))
          have hsz := hb.size
          have hyn : (Bks.slL xs k).length + 1 ≤ 1099511627776 := by omega
          go_wp2_with (at_builtin; refine wpList_appendB rfl (.tmp 47) (.tmp 53) rfl w.heap.size _ _ rfl ow (some ⟨wr.heap.size, 0, none⟩) 1 1 _ [⟨Bks.atS xs k, t - Bks.atS xs k, false⟩] rfl rr hyn (by simp; omega) ?_; intro v5 w5 o5 g5 s5)
          have bn : Below w.heap.size w w5 := (hb.alloc hb.size _).grown g5 (by simp; omega) (fun k hk => (World.ownsRow.lt ho k hk).1)
          go_ret2
          exact GaveBN.of o5 bn (by rw [HS.out, HE.out]) HM.out.symm
        · have HE := Lib.hid (show Bks.slideB xs t = Bks.slL xs k by rw [Bks.slideB, hl, if_neg hat])
          have hat' : decide (Bks.atS xs k < t) = false := decide_eq_false hat
          go_wp2_with fail
          go_ret2
          exact GaveBN.of ho hb (by rw [HS.out, HE.out]) HM.out.symm

theorem takeFirst_at (A : Option Addr) (n c : Nat) (xs : List Bl) (t size f : Int) (w : World) (h : BS w w.heap.size A n xs) (hn : n ≤ 1099511627776) (hc : n ≤ c) (_hfb : -1 ≤ f ∧ f ≤ 1001) (ys : List Bl) (ok : Bool) (HF : Hid (Bks.firstW xs t size = f)) (HY : Hid ((if Bks.validB xs t = true then Bks.takeB xs f size else []) = ys)) (HO : Hid ((Bks.validB xs t && Bks.canTake xs f size) = ok)) :
    Calls Try.prog 37 #[.slice A n c, .int .i64 t, .int .i64 size] w (GaveB2 w ys ok) := by
  go_enter Try.func37, Try.ntmps37
  go_wp2_with fail
  refine (firstFit_any _ _ _ xs _ _ _ h hn).mono ?_
  rw [HF.out]
  rintro e w2 ⟨rfl, b2⟩
  have o2 := h.up b2
  go_wp2_with fail
  refine (takeBlock_any _ _ _ xs _ _ _ _ o2 hn hc).mono ?_
  rw [HY.out, HO.out]
  rintro e w3 ⟨v3, rfl, o3, b3⟩
  go_wp2_with fail
  go_ret2
  exact GaveB.two ⟨o3.base b2.size, b2.trans (b3.mono b2.size)⟩ _ _ _ rfl rfl
theorem takeFirst_any (A : Option Addr) (n c : Nat) (xs : List Bl) (t size : Int) (w : World) (h : BS w w.heap.size A n xs) (hn : n ≤ 1099511627776) (hc : n ≤ c) (hl : xs.length ≤ 1000) :
    Calls Try.prog 37 #[.slice A n c, .int .i64 t, .int .i64 size] w (GaveB2 w (if Bks.validB xs t = true then Bks.takeB xs (Bks.firstW xs t size) size else []) (Bks.validB xs t && Bks.canTake xs (Bks.firstW xs t size) size)) :=
  takeFirst_at A n c xs t size _ w h hn hc (firstW_bd' xs t size hl) _ _ (Lib.hid rfl) (Lib.hid rfl) (Lib.hid rfl)

theorem take_none {xs : List Bl} {f size : Int} (h : ¬ 0 ≤ f) : Bks.canTake xs f size = false := canTake_isB (isB_neg false (by omega))

set_option maxHeartbeats 2000000 in
theorem takeSliding_any (A : Option Addr) (n c : Nat) (xs : List Bl) (t size : Int) (w : World) (h : BS w w.heap.size A n xs) (hn : n ≤ 1099511627776) (hc : n ≤ c) :
    Calls Try.prog 22 #[.slice A n c, .int .i64 t, .int .i64 size] w (GaveB2 w (Bks.tsW xs t size) (Bks.tsOk xs t size)) := by
  have hl := h.1
  cases hv : Bks.validB xs t
  · have HS := Lib.hid (show Bks.tsW xs t size = [] by rw [Bks.tsW, hv]; rfl)
    have HM := Lib.hid (show Bks.tsOk xs t size = false by rw [Bks.tsOk, hv]; rfl)
    have HV := Lib.hid hv
    clear hv
    go_enter Try.func22, Try.ntmps22
    go_wp2_with fail
    refine (blocksValid_any _ _ _ xs _ _ h hn).mono ?_
    rw [HV.out]
    rintro e w1 ⟨rfl, b1⟩
    have o0 : OwnB w1 w.heap.size (.slice none 0 0) [] := World.ownsRow_nil _ _ _ _
    go_wp2_with fail
    go_ret2
    exact GaveB.two ⟨o0, b1⟩ _ _ _ HS.out.symm HM.out.symm
  · have hle := (Bks.valid_len hv).2.1
    have HV := Lib.hid hv
    have hfb := firstW_bd' xs t size (by omega)
    obtain ⟨f, hf⟩ : ∃ f, Bks.firstW xs t size = f := ⟨_, rfl⟩
    have HF := Lib.hid hf
    by_cases h0 : 0 ≤ f
    · obtain ⟨q1, _, _, _, _⟩ := Bks.first_take hv (by rw [hf]; exact h0)
      rw [hf] at q1 hfb
      have HS := Lib.hid (show Bks.tsW xs t size = Bks.takeB xs f size by rw [Bks.tsW, hv, if_pos rfl, Bks.tsB, hf, if_pos h0])
      have HM := Lib.hid (show Bks.tsOk xs t size = true by rw [Bks.tsOk, hv, hf, decide_eq_true h0]; rfl)
      have HT := Lib.hid (show (if Bks.validB xs t = true then Bks.takeB xs f size else []) = Bks.tsW xs t size by rw [HS.out, hv, if_pos rfl])
      have HO := Lib.hid (show (Bks.validB xs t && Bks.canTake xs f size) = true by rw [hv, q1]; rfl)
      clear hv hf q1
      go_enter Try.func22, Try.ntmps22
      go_wp2_with fail
      refine (blocksValid_any _ _ _ xs _ _ h hn).mono ?_
      rw [HV.out]
      rintro e w1 ⟨rfl, b1⟩
      have o1 := h.up b1
      go_wp2_with fail
      refine (takeFirst_any _ _ _ xs _ _ _ o1 hn hc (by omega)).mono ?_
      rw [HF.out, HT.out, HO.out]
      rintro e w2 ⟨v2, rfl, o2, b2⟩
      have bb2 := b1.trans (b2.mono b1.size)
      go_wp2_with fail
      go_ret2
      exact GaveB.two ⟨o2.base b1.size, bb2⟩ _ _ _ rfl HM.out.symm
    · have hsv := Bks.slide_valid hv
      have hsle := (Bks.valid_len hsv).2.1
      obtain ⟨ys, hys⟩ : ∃ ys, Bks.slideB xs t = ys := ⟨_, rfl⟩
      obtain ⟨m, hm⟩ : ∃ m, Bks.movW xs t = m := ⟨_, rfl⟩
      obtain ⟨f2, hf2⟩ : ∃ f2, Bks.firstW ys t size = f2 := ⟨_, rfl⟩
      rw [hys] at hsv hsle
      have h0' : decide ((0 : Int) ≤ f) = false := decide_eq_false h0
      have HYA := Lib.hid (valid_all_ hsv)
      have HYS := Lib.hid (show Bks.slideW xs t = ys by rw [Bks.slideW, hv, if_pos rfl, hys])
      have HMV := Lib.hid hm
      have HF2 := Lib.hid hf2
      have HO := Lib.hid (show (Bks.validB xs t && Bks.canTake xs f size) = false by rw [take_none h0, Bool.and_false])
      by_cases h2 : 0 ≤ f2
      · obtain ⟨q1, _, _, _, _⟩ := Bks.first_take hsv (by rw [hf2]; exact h2)
        rw [hf2] at q1
        have HS := Lib.hid (show Bks.tsW xs t size = Bks.takeB ys f2 size by rw [Bks.tsW, hv, if_pos rfl, Bks.tsB, hf, if_neg h0, hys, hf2, if_pos h2])
        have HM := Lib.hid (show Bks.tsOk xs t size = true by rw [Bks.tsOk, hv, hys, hf2, decide_eq_true h2]; simp)
        have HT2 := Lib.hid (show (if Bks.validB ys t = true then Bks.takeB ys f2 size else []) = Bks.tsW xs t size by rw [HS.out, hsv, if_pos rfl])
        have HO2 := Lib.hid (show (Bks.validB ys t && Bks.canTake ys f2 size) = true by rw [hsv, q1]; rfl)
        clear hv hf q1 hsv hys hm hf2 h0' hfb
        go_enter Try.func22, Try.ntmps22
        go_wp2_with fail
        refine (blocksValid_any _ _ _ xs _ _ h hn).mono ?_
        rw [HV.out]
        rintro e w1 ⟨rfl, b1⟩
        have o1 := h.up b1
        go_wp2_with fail
        refine (takeFirst_any _ _ _ xs _ _ _ o1 hn hc (by omega)).mono ?_
        rw [HF.out, HO.out]
        rintro e w2 ⟨v2, rfl, o2, b2⟩
        have bb2 := b1.trans (b2.mono b1.size)
        clear o2
        go_wp2_with fail
        refine (slideBlocks_any _ _ _ xs _ _ (h.up bb2) hn hc).mono ?_
        rw [HYS.out, HMV.out]
        rintro e w3 ⟨v3, rfl, o3, b3⟩
        have bb3 := bb2.trans (b3.mono bb2.size)
        obtain ⟨A3, c3, rfl, f3⟩ := o3.form
        have hc3 := o3.cap.2
        have r3 := o3.reads HYA.out
        clear f3
        go_wp2_with fail
        refine (takeFirst_any _ _ _ ys _ _ _ r3 (by omega) hc3 (by omega)).mono ?_
        rw [HF2.out, HT2.out, HO2.out]
        rintro e w4 ⟨v4, rfl, o4, b4⟩
        go_wp2_with fail
        go_ret2
        exact GaveB.two ⟨o4.base bb3.size, bb3.trans (b4.mono bb3.size)⟩ _ _ _ rfl HM.out.symm
      · have h2' : decide ((0 : Int) ≤ f2) = false := decide_eq_false h2
        have HS := Lib.hid (show Bks.tsW xs t size = xs by rw [Bks.tsW, hv, if_pos rfl, Bks.tsB, hf, if_neg h0, hys, hf2, if_neg h2])
        have HM := Lib.hid (show Bks.tsOk xs t size = false by rw [Bks.tsOk, hv, hys, hf2, hf, h0', h2']; rfl)
        have HO2 := Lib.hid (show (Bks.validB ys t && Bks.canTake ys f2 size) = false by rw [take_none h2, Bool.and_false])
        clear hv hf hsv hys hm hf2 h0' hfb
        go_enter Try.func22, Try.ntmps22
        go_wp2_with fail
        refine (blocksValid_any _ _ _ xs _ _ h hn).mono ?_
        rw [HV.out]
        rintro e w1 ⟨rfl, b1⟩
        have o1 := h.up b1
        go_wp2_with fail
        refine (takeFirst_any _ _ _ xs _ _ _ o1 hn hc (by omega)).mono ?_
        rw [HF.out, HO.out]
        rintro e w2 ⟨v2, rfl, o2, b2⟩
        have bb2 := b1.trans (b2.mono b1.size)
        clear o2
        go_wp2_with fail
        refine (slideBlocks_any _ _ _ xs _ _ (h.up bb2) hn hc).mono ?_
        rw [HYS.out, HMV.out]
        rintro e w3 ⟨v3, rfl, o3, b3⟩
        have bb3 := bb2.trans (b3.mono bb2.size)
        obtain ⟨A3, c3, rfl, f3⟩ := o3.form
        have hc3 := o3.cap.2
        have r3 := o3.reads HYA.out
        clear f3
        go_wp2_with fail
        refine (takeFirst_any _ _ _ ys _ _ _ r3 (by omega) hc3 (by omega)).mono ?_
        rw [HF2.out, HO2.out]
        rintro e w4 ⟨v4, rfl, o4, b4⟩
        have bb4 := bb3.trans (b4.mono bb3.size)
        go_wp2_with fail
        refine (clone_any _ _ _ xs _ (h.up bb4) hn).mono ?_
        rintro e w5 ⟨v5, rfl, o5, b5⟩
        go_wp2_with fail
        go_ret2
        exact GaveB.two ⟨o5.base bb4.size, bb4.trans (b5.mono bb4.size)⟩ _ _ _ HS.out.symm HM.out.symm
end Go.Proofs.Ytkejbggffbkdaaa
