/- The laws of GiveBlock (P23) and BlocksOrder (P111) return true: for every list of bytes. -/
import Derived.Test.YtfffilgghogiaaaWx
import Derived.Deep.RegionWith
namespace Go.Proofs.Ytfffilgghogiaaa
open Go.RowKit

/-- what GiveBlock does -/
theorem give_cases (xs : List Bl) (t num : Int) (ys : List Bl) (ok : Bool) (h1 : (if Bks.validB xs t = true then Bks.giveB xs num else []) = ys) (h2 : (Bks.validB xs t && Bks.canGive xs num) = ok) :
    (ok = false ∧ (ys = [] ∨ ys = xs)) ∨ (ok = true ∧ ∃ (k : Nat) (x : Bl), num = k ∧ k < xs.length ∧ xs[k]? = some x ∧ x.u = true ∧ Bks.validB xs t = true ∧ Bks.validB ys t = true ∧ Bks.freeW ys t = Bks.freeW xs t + x.z ∧ ys.length ≤ xs.length ∧ xs.length ≤ ys.length + 2 ∧ 0 ≤ Bks.freeW xs t ∧ Bks.freeW xs t ≤ 256 ∧ 1 ≤ x.z ∧ x.z ≤ 256) := by
  cases hv : Bks.validB xs t
  · rw [hv] at h1 h2
    exact .inl ⟨h2.symm, .inl h1.symm⟩
  · rw [hv] at h1 h2
    simp only [if_true, Bool.true_and] at h1 h2
    cases ok
    · left
      refine ⟨rfl, .inr ?_⟩
      rw [← h1, Bks.giveB, h2]
      simp
    · right
      rw [canGive_isB] at h2
      obtain ⟨k, x, rfl, hk, hx, hu⟩ := isB_yes h2
      have hyv : Bks.validB ys t = true := by rw [← h1]; exact Bks.giveB_valid hv
      have hf := Bks.give_free hx hu
      have hl := Bks.give_len hv hx hu
      rw [h1] at hf hl
      have r1 := Bks.free_range hv xs.length (Nat.le_refl _)
      rw [Bks.free_eq] at r1
      have hz := Bks.valid_at hv hx
      refine ⟨rfl, k, x, rfl, hk, hx, hu, rfl, hyv, ?_, hl.1, hl.2, ?_, ?_, hz.2.1, hz.2.2.1⟩
      · rw [freeW_free hv, freeW_free hyv, hf]
      · rw [freeW_free hv]; omega
      · rw [freeW_free hv]; omega

/-- a later world -/
def InB (w0 w : World) : Prop := Below w0.heap.size w0 w
theorem InB.call {w0 w w' : World} (h : InB w0 w) (hb : Below w.heap.size w w') : InB w0 w' := Below.trans h (hb.mono (Below.size h))

set_option maxRecDepth 100000 in
set_option maxHeartbeats 4000000 in
theorem giveBlockLaw_walk (A : Option Addr) (n c : Nat) (w : World) (h : Bytes w w.heap.size A n) (hc : n ≤ c) (hn : n ≤ 9223372036854775807) :
    Calls Try.prog 7 #[.slice A n c] w fun e w' => e = .returned (.bool true) ∧ Below w.heap.size w w' := by
  by_cases hs : n ≤ 1048576
  · have hs' : decide ((1048576 : Int) < (n : Int)) = false := by simp; omega
    go_enter Try.func7, Try.ntmps7
    go_wp2_with fail
    refine (drawGiveBlock_any _ _ _ _ h hc hn).mono ?_
    rintro e w1 ⟨v, xs, T, num, rfl, o1, ha, l1, l2, t1, t2, k1, k2, b1⟩
    obtain ⟨A1, c1, rfl, f1⟩ := o1.form
    have hcap := o1.cap.2
    clear f1
    have HA := Lib.hid ha
    clear ha
    obtain ⟨ys, hys⟩ : ∃ ys, (if Bks.validB xs T = true then Bks.giveB xs num else []) = ys := ⟨_, rfl⟩
    obtain ⟨ok, hok⟩ : ∃ ok, (Bks.validB xs T && Bks.canGive xs num) = ok := ⟨_, rfl⟩
    have HCA := Lib.hid (give_cases xs T num ys ok hys hok)
    have hla : AllI ys := by rw [← hys]; exact give_all xs T num
    have hln : ys.length ≤ 256 := by rw [← hys]; exact give_len_ xs T num
    have HY := Lib.hid hys
    have HO := Lib.hid hok
    have HYA := Lib.hid hla
    clear hys hok hla
    go_wp2_with fail
    refine (giveBlock_any _ _ _ xs _ _ _ (o1.reads HA.out) (by omega) hcap).mono ?_
    rw [HY.out, HO.out]
    rintro e w2 ⟨v2, rfl, p2, b2⟩
    have bb2 := b1.trans (b2.mono b1.size)
    have o2 := o1.below b2 (Nat.le_refl _)
    clear o1
    go_wp2_with fail
    refine (mGiveBlock_any _ _ _ xs _ _ _ (o2.reads HA.out) (by omega)).mono ?_
    rw [HY.out, HO.out]
    rintro e w3 ⟨v3, rfl, p3, b3⟩
    have bb3 := bb2.trans (b3.mono bb2.size)
    have o3 := o2.below b3 (Nat.le_refl _)
    have p2 := p2.below b3 (Nat.le_refl _)
    obtain ⟨A2, c2, rfl, f2⟩ := p2.form
    obtain ⟨A3, c3, rfl, f3⟩ := p3.form
    clear f2 f3 o2
    go_wp2_with fail
    refine (sameBlocks_any _ _ _ _ _ _ ys ys _ (p2.reads HYA.out) (p3.reads HYA.out) (by omega) (by omega)).mono ?_
    rw [decide_eq_true rfl]
    rintro e w4 ⟨rfl, b4⟩
    have bb4 := bb3.trans (b4.mono bb3.size)
    have o4 := o3.below b4 (Nat.le_refl _)
    have p4 := p2.below b4 (Nat.le_refl _)
    clear o3 p2 p3 b2 b3 b4
    rcases HCA.out with ⟨rfl, rfl | rfl⟩ | ⟨rfl, k, x, rfl, hk, hx, hu, hv, hyv, hfr, hn1, hn2, hf1, hf2, hz1, hz2⟩
    · go_wp2_with fail
      refine (alive_any _).mono ?_
      rintro e w5 ⟨rfl, b5⟩
      go_wp2_with fail
      go_ret
      exact ⟨rfl, bb4.trans (b5.mono bb4.size)⟩
    · have hne : ((ys.length : Int) == 0) = false := by rw [beq_eq_false_iff_ne]; omega
      go_wp2_with fail
      refine (sameBlocks_any _ _ _ _ _ _ ys ys _ (p4.reads HYA.out) (o4.reads HYA.out) (by omega) (by omega)).mono ?_
      rw [decide_eq_true rfl]
      rintro e w5 ⟨rfl, b5⟩
      have bb5 := bb4.trans (b5.mono bb4.size)
      go_wp2_with fail
      refine (alive_any _).mono ?_
      rintro e w6 ⟨rfl, b6⟩
      go_wp2_with fail
      go_ret
      exact ⟨rfl, bb5.trans (b6.mono bb5.size)⟩
    · have HYV := Lib.hid hyv
      have HFR := Lib.hid hfr
      obtain ⟨fx, hfx⟩ : ∃ fx, Bks.freeW xs T = fx := ⟨_, rfl⟩
      rw [hfx] at hf1 hf2 HFR
      have HFX := Lib.hid hfx
      obtain ⟨g, o, x1, rfl, hg, hx1, _, _, _, d2, _⟩ := (o4.reads HA.out).at_ hk
      obtain rfl : x1 = x := Option.some.inj (hx1.symm.trans hx)
      clear hx1 hx hu hv hyv hfr hfx
      have hk' : (k : Int) < xs.length := by omega
      have hcell : ∀ w', InB w4 w' → w'.cell? ⟨g, o + k * 3 + 1, none⟩ = some (.int .i64 x1.z) := fun w' hw' => (Below.cell hw' (p := ⟨g, o + k * 3 + 1, none⟩) (by show g < w4.heap.size; exact hg)).trans d2
      have HCELL := Lib.hid hcell
      clear hcell d2
      have m1 : IntKind.i64.wrap (fx + x1.z) = fx + x1.z := IntWalk.i64_in _ (by omega)
      have m2 : IntKind.i64.wrap ((xs.length : Int) - 2) = (xs.length : Int) - 2 := IntWalk.i64_in _ (by omega)
      have m3 : (ys.length : Int) ≤ xs.length := by omega
      have m4 : (xs.length : Int) - 2 ≤ ys.length := by omega
      have CV := Lib.hid (fun w' (hw' : InB w4 w') => (blocksValid_any A2 ys.length c2 ys T w' ((p4.below hw' (Nat.le_refl _)).reads HYA.out) (by omega)).mono (R' := fun e w'' => e = .returned (.bool true) ∧ InB w4 w'') fun e w'' hh => ⟨by rw [HYV.out] at hh; exact hh.1, hw'.call hh.2⟩)
      have CF := Lib.hid (fun w' (hw' : InB w4 w') => (freeWords_any A2 ys.length c2 ys T w' ((p4.below hw' (Nat.le_refl _)).reads HYA.out) (by omega)).mono (R' := fun e w'' => e = .returned (.int .i64 (fx + x1.z)) ∧ InB w4 w'') fun e w'' hh => ⟨by rw [HFR.out] at hh; exact hh.1, hw'.call hh.2⟩)
      have CG := Lib.hid (fun w' (hw' : InB w4 w') => (freeWords_any (some ⟨g, o, none⟩) xs.length c1 xs T w' ((o4.below hw' (Nat.le_refl _)).reads HA.out) (by omega)).mono (R' := fun e w'' => e = .returned (.int .i64 fx) ∧ InB w4 w'') fun e w'' hh => ⟨by rw [HFX.out] at hh; exact hh.1, hw'.call hh.2⟩)
      go_wp2_with fail
      refine wp_region_quiet (C := InB w4) (by kernel_rfl) (by kernel_rfl) (show InB w4 _ from (Below.refl _ _).drew) ?_
      repeat (
        refine wpQuiet_step (fun K hK => ?_)
        go_simp
        first
          | (refine hK _ ?_
             clear hK K)
          | ((with_reducible refine ⟨_, fun _ _ => rfl, hK _ ?_⟩)
             clear hK K)
          | ((with_reducible refine ⟨_, CV.out, hK _ ?_⟩)
             clear hK K)
          | ((with_reducible refine ⟨_, CF.out, hK _ ?_⟩)
             clear hK K)
          | ((with_reducible refine ⟨_, CG.out, hK _ ?_⟩)
             clear hK K)
          | (refine ⟨.int .i64 x1.z, fun w' hw' => ?_, hK _ ?_⟩
             have hcw := HCELL.out w' hw'
             go_simp
             clear hK K))
      refine wpQuiet_nil ?_
      intro w5 hw5
      clear m1 m2
      go_wp2
      go_ret
      exact ⟨rfl, bb4.trans ((show Below w4.heap.size w4 w5 from hw5).mono bb4.size)⟩
  · go_enter Try.func7, Try.ntmps7
    go_wp2
    go_ret
    exact ⟨rfl, Below.refl _ _⟩

/-- GiveBlock where a used block is -/
theorem give_used {xs : List Bl} {t : Int} {k : Nat} (hv : Bks.validB xs t = true) :
    (if Bks.validB xs t = true then Bks.giveB xs k else []) = Bks.giveB xs k ∧ Bks.validB (Bks.giveB xs k) t = true :=
  ⟨if_pos hv, Bks.giveB_valid hv⟩

set_option maxRecDepth 100000 in
set_option maxHeartbeats 4000000 in
theorem blocksOrderLaw_walk (A : Option Addr) (n c : Nat) (w : World) (h : Bytes w w.heap.size A n) (hc : n ≤ c) (hn : n ≤ 9223372036854775807) :
    Calls Try.prog 8 #[.slice A n c] w fun e w' => e = .returned (.bool true) ∧ Below w.heap.size w w' := by
  by_cases hs : n ≤ 1048576
  · have hs' : decide ((1048576 : Int) < (n : Int)) = false := by simp; omega
    go_enter Try.func8, Try.ntmps8
    go_wp2_with fail
    refine (drawGiveBlock_any _ _ _ _ h hc hn).mono ?_
    rintro e w1 ⟨v, xs, T, num, rfl, o1, ha, l1, l2, t1, t2, k1, k2, b1⟩
    obtain ⟨A1, c1, rfl, f1⟩ := o1.form
    have hcap := o1.cap.2
    clear f1
    have HA := Lib.hid ha
    clear ha
    obtain ⟨ys, hys⟩ : ∃ ys, (if Bks.validB xs T = true then Bks.giveB xs num else []) = ys := ⟨_, rfl⟩
    obtain ⟨ok, hok⟩ : ∃ ok, (Bks.validB xs T && Bks.canGive xs num) = ok := ⟨_, rfl⟩
    have HCA := Lib.hid (give_cases xs T num ys ok hys hok)
    have hla : AllI ys := by rw [← hys]; exact give_all xs T num
    have hln : ys.length ≤ 256 := by rw [← hys]; exact give_len_ xs T num
    have HY := Lib.hid hys
    have HO := Lib.hid hok
    have HYA := Lib.hid hla
    clear hys hok hla
    go_wp2_with fail
    refine (giveBlock_any _ _ _ xs _ _ _ (o1.reads HA.out) (by omega) hcap).mono ?_
    rw [HY.out, HO.out]
    rintro e w2 ⟨v2, rfl, p2, b2⟩
    have bb2 := b1.trans (b2.mono b1.size)
    have o2 := o1.below b2 (Nat.le_refl _)
    clear o1
    go_wp2_with fail
    refine (mGiveBlock_any _ _ _ xs _ _ _ (o2.reads HA.out) (by omega)).mono ?_
    rw [HY.out, HO.out]
    rintro e w3 ⟨v3, rfl, p3, b3⟩
    have bb3 := bb2.trans (b3.mono bb2.size)
    have o3 := o2.below b3 (Nat.le_refl _)
    have p2 := p2.below b3 (Nat.le_refl _)
    obtain ⟨A2, c2, rfl, f2⟩ := p2.form
    obtain ⟨A3, c3, rfl, f3⟩ := p3.form
    have hcap2 := p2.cap.2
    clear f2 f3 o2
    go_wp2_with fail
    refine (sameBlocks_any _ _ _ _ _ _ ys ys _ (p2.reads HYA.out) (p3.reads HYA.out) (by omega) (by omega)).mono ?_
    rw [decide_eq_true rfl]
    rintro e w4 ⟨rfl, b4⟩
    have bb4 := bb3.trans (b4.mono bb3.size)
    have o4 := o3.below b4 (Nat.le_refl _)
    have p4 := p2.below b4 (Nat.le_refl _)
    clear o3 p2 p3 b2 b3 b4
    rcases HCA.out with ⟨rfl, _⟩ | ⟨rfl, m, x, rfl, hk, hx, hu, hv, hyv, hfr, hn1, hn2, hf1, hf2, hz1, hz2⟩
    · go_wp2_with fail
      refine (alive_any _).mono ?_
      rintro e w5 ⟨rfl, b5⟩
      go_wp2_with fail
      go_ret
      exact ⟨rfl, bb4.trans (b5.mono bb4.size)⟩
    · have HYG := Lib.hid (show ys = Bks.giveB xs m by rw [← HY.out, if_pos hv])
      have HV := Lib.hid hv
      have HYV := Lib.hid hyv
      have HX := Lib.hid hx
      have HU := Lib.hid hu
      have OO := Lib.hid o4
      have PP := Lib.hid p4
      clear hfr hv hyv hx hu o4 p4 hf1 hf2
      go_wp2_with fail
      go_loopw [10] (fun i wr => ∃ k : Nat, k ≤ xs.length ∧ i = .int .i64 k ∧ Below w4.heap.size w4 wr) (fun i _ => xs.length - (intOf i).toNat)
      case atStart => exact ⟨0, Nat.zero_le _, rfl, Below.refl _ _⟩
      case round =>
        obtain ⟨k, hkk, rfl, hb⟩ := hrel
        by_cases hlt : k < xs.length
        · by_cases hkm : k = m
          · have hke : ((k : Int) == (m : Int)) = true := by rw [beq_iff_eq]; omega
            clear hkm
            go_wp2
            go_roundw
            case rel => exact ⟨k + 1, by omega, by go_num, hb⟩
            case measure => simp [intOf]; omega
          · have hke : ((k : Int) == (m : Int)) = false := by rw [beq_eq_false_iff_ne]; omega
            have o5 := OO.out.below hb (Nat.le_refl _)
            have p5 := PP.out.below hb (Nat.le_refl _)
            obtain ⟨g, o, y, e1, _, hy, ⟨i1, i2⟩, _, d1, _, d3⟩ := (o5.reads HA.out).at_ hlt
            subst e1
            cases huy : y.u
            · rw [huy] at d3
              clear huy
              go_wp2
              go_roundw
              case rel => exact ⟨k + 1, by omega, by go_num, hb⟩
              case measure => simp [intOf]; omega
            · rw [huy] at d3
              have hord := Bks.order_any HV.out (fun e => hkm e.symm) HX.out hy HU.out huy
              rw [← HYG.out] at hord
              obtain ⟨zs, hzs⟩ : ∃ zs, Bks.giveB xs k = zs := ⟨_, rfl⟩
              have hzv : Bks.validB zs T = true := by rw [← hzs]; exact Bks.giveB_valid HV.out
              rw [hzs] at hord
              have hzl := (Bks.valid_len hzv).2.1
              have ZA := Lib.hid (valid_all_ hzv)
              obtain ⟨pa, hpa⟩ : ∃ pa, Bks.atW ys T y.s = pa := ⟨_, rfl⟩
              obtain ⟨pb, hpb⟩ : ∃ pb, Bks.atW zs T x.s = pb := ⟨_, rfl⟩
              rw [hpa, hpb] at hord
              obtain ⟨us, hus⟩ : ∃ us, Bks.giveB ys pa = us := ⟨_, rfl⟩
              have huv : Bks.validB us T = true := by rw [← hus]; exact Bks.giveB_valid HYV.out
              have hul := (Bks.valid_len huv).2.1
              have UA := Lib.hid (valid_all_ huv)
              rw [hus] at hord
              have G1 := Lib.hid (show (if Bks.validB ys T = true then Bks.giveB ys pa else []) = us by rw [if_pos HYV.out]; exact hus)
              have G2 := Lib.hid (show (if Bks.validB xs T = true then Bks.giveB xs k else []) = zs by rw [if_pos HV.out]; exact hzs)
              have G3 := Lib.hid (show (if Bks.validB zs T = true then Bks.giveB zs pb else []) = us by rw [if_pos hzv]; exact hord.symm)
              have HPA := Lib.hid hpa
              have HPB := Lib.hid hpb
              obtain ⟨okA, hokA⟩ : ∃ ok, (Bks.validB ys T && Bks.canGive ys pa) = ok := ⟨_, rfl⟩
              obtain ⟨okB, hokB⟩ : ∃ ok, (Bks.validB xs T && Bks.canGive xs k) = ok := ⟨_, rfl⟩
              obtain ⟨okC, hokC⟩ : ∃ ok, (Bks.validB zs T && Bks.canGive zs pb) = ok := ⟨_, rfl⟩
              have KA := Lib.hid hokA
              have KB := Lib.hid hokB
              have KC := Lib.hid hokC
              clear hord hzs hzv hpa hpb hus huv hokA hokB hokC huy hy hkm
              go_wp2_with fail
              refine (blockAt_any _ _ _ ys _ _ _ (p5.reads HYA.out) (by omega)).mono ?_
              rw [HPA.out]
              rintro e w5 ⟨rfl, b5⟩
              have bb5 := hb.trans (b5.mono hb.size)
              have p6 := p5.below b5 (Nat.le_refl _)
              have o6 := o5.below b5 (Nat.le_refl _)
              clear d1 d3
              go_wp2_with fail
              refine (giveBlock_any _ _ _ ys _ _ _ (p6.reads HYA.out) (by omega) hcap2).mono ?_
              rw [G1.out, KA.out]
              rintro e w6 ⟨v6, rfl, r6, b6⟩
              have bb6 := bb5.trans (b6.mono bb5.size)
              have o7 := o6.below b6 (Nat.le_refl _)
              clear p5 p6 o5 o6 b5 b6 bb5
              go_wp2_with fail
              refine (giveBlock_any _ _ _ xs _ _ _ (o7.reads HA.out) (by omega) hcap).mono ?_
              rw [G2.out, KB.out]
              rintro e w7 ⟨v7, rfl, r7, b7⟩
              have bb7 := bb6.trans (b7.mono bb6.size)
              have r6 := r6.below b7 (Nat.le_refl _)
              have o8 := o7.below b7 (Nat.le_refl _)
              obtain ⟨A7, c7, rfl, f7⟩ := r7.form
              have hcap7 := r7.cap.2
              clear f7 o7 b7 bb6
              obtain ⟨g1, o1, x1, e1, _, hx1, _, _, d1, _, _⟩ := (o8.reads HA.out).at_ hk
              injection e1 with e1
              injection e1 with ea eb
              subst ea eb
              obtain rfl : x1 = x := Option.some.inj (hx1.symm.trans HX.out)
              clear hx1
              go_wp2_with fail
              refine (blockAt_any _ _ _ zs _ _ _ (r7.reads ZA.out) (by omega)).mono ?_
              rw [HPB.out]
              rintro e w8 ⟨rfl, b8⟩
              have bb8 := bb7.trans (b8.mono bb7.size)
              have r6 := r6.below b8 (Nat.le_refl _)
              have r8 := r7.below b8 (Nat.le_refl _)
              clear d1
              go_wp2_with fail
              refine (giveBlock_any _ _ _ zs _ _ _ (r8.reads ZA.out) (by omega) hcap7).mono ?_
              rw [G3.out, KC.out]
              rintro e w9 ⟨v9, rfl, r9, b9⟩
              have bb9 := bb8.trans (b9.mono bb8.size)
              have r6 := r6.below b9 (Nat.le_refl _)
              obtain ⟨A6, c6, rfl, f6⟩ := r6.form
              obtain ⟨A9, c9, rfl, f9⟩ := r9.form
              clear f6 f9
              go_wp2_with fail
              refine (sameBlocks_any _ _ _ _ _ _ us us _ (r6.reads UA.out) (r9.reads UA.out) (by omega) (by omega)).mono ?_
              rw [decide_eq_true rfl]
              rintro e w10 ⟨rfl, b10⟩
              have bb10 := bb9.trans (b10.mono bb9.size)
              go_wp2
              go_roundw
              case rel => exact ⟨k + 1, by omega, by go_num, bb10⟩
              case measure => simp [intOf]; omega
        · go_wp2
          go_ret
          exact ⟨rfl, bb4.trans (hb.mono bb4.size)⟩
  · go_enter Try.func8, Try.ntmps8
    go_wp2
    go_ret
    exact ⟨rfl, Below.refl _ _⟩
end Go.Proofs.Ytfffilgghogiaaa
