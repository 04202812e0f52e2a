/- What BuddyTake of the program returns: for every slice of buddies and all numbers. -/
import Derived.Test.YthihaclhlmpioaaBud5
import Derived.Test.YthihaclhlmpioaaZi
import Derived.Test.YthihaclhlmpioaaYe
import Derived.Test.YthihaclhlmpioaaInv
namespace Go.Proofs.Ythihaclhlmpioaa
open Go.RowKit

theorem fl_all {w : World} {base : Nat} {A : Nat → Option Addr} {N C : Nat → Nat} {xs : List Bl} {p : Int} (hv : Bud.validY xs p = true) (h : FLst w base (flv A N C) (Bud.freesTo xs xs.length)) :
    (∀ j, j < 9 → IS w w.heap.size (A j) (N j) (Bud.freesTo xs xs.length j)) ∧ (∀ j, j < 9 → N j ≤ 1099511627776) := by
  have h1 : ∀ j, j < 9 → IS w w.heap.size (A j) (N j) (Bud.freesTo xs xs.length j) := fun j hj => h.reads hj (Bud.frees_allN hv j)
  refine ⟨h1, fun j hj => ?_⟩
  have := (h1 j hj).1
  have := Bud.freesTo_len xs xs.length j
  have := (Bud.validY_len hv).2.1
  omega

set_option maxRecDepth 100000 in
set_option maxHeartbeats 4000000 in
theorem buddyTake_any (A : Option Addr) (n c : Nat) (xs : List Bl) (p size : Int) (w : World) (h : BS w w.heap.size A n xs) (hn : n ≤ 1099511627776) (hc : n ≤ c) :
    Calls Try.prog 23 #[.slice A n c, .int .i64 p, .int .i64 size] w (GaveY3 w (if Bud.validY xs p = true then Bud.takeY xs size else []) (if Bud.validY xs p = true then Bud.startY xs size else -1) (Bud.validY xs p && Bud.okY xs size)) := by
  have HL := Lib.hid h.1
  cases hv : Bud.validY xs p
  · have HV := Lib.hid hv
    clear hv
    go_enter Try.func23, Try.ntmps23
    go_wp2_with fail
    refine (buddiesValid_any _ _ _ xs _ _ h hn).mono ?_
    rw [HV.out]
    rintro e w1 ⟨rfl, b1⟩
    go_wp2_with fail
    go_ret3
    exact ⟨_, rfl, World.ownsRow_nil _ _ _ _, b1⟩
  · rw [if_pos rfl, if_pos rfl, Bool.true_and]
    have HV := Lib.hid hv
    have HAS := Lib.hid (Bud.asc_of_valid hv)
    have hl := Bud.validY_len hv
    have hn5 : n ≤ 256 := by have := h.1; omega
    clear hv hl
    rcases Bud.powW_range size with hw | ⟨m, hw, hm8⟩
    · have HW := Lib.hid hw
      have HB := Lib.hid (show Bud.bestY xs size = none by rw [Bud.bestY, hw]; rfl)
      clear hw
      go_enter Try.func23, Try.ntmps23
      go_wp2_with fail
      refine (buddiesValid_any _ _ _ xs _ _ h hn).mono ?_
      rw [HV.out]
      rintro e w1 ⟨rfl, b1⟩
      go_wp2_with fail
      refine (powerFor_any _ _).mono ?_
      rw [HW.out]
      rintro e w' ⟨rfl, rfl⟩
      go_wp2_with fail
      refine (cloneY_any _ _ _ xs _ (h.up b1) hn).mono ?_
      rintro e w2 ⟨v2, rfl, o2, b2⟩
      go_wp2_with fail
      go_ret3
      exact GaveY3.of (o2.base b1.size) (b1.trans (b2.mono b1.size)) (by rw [Bud.takeY, HB.out]) (by rw [Bud.startY, HB.out]) (by rw [Bud.okY, HB.out]; rfl)
    · have HW := Lib.hid hw
      have HB := Lib.hid (show Bud.bestY xs size = Bks.bestTo xs m xs.length by rw [Bud.bestY, hw, if_neg (by omega)])
      clear hw
      go_enter Try.func23, Try.ntmps23
      go_wp2_with fail
      refine (buddiesValid_any _ _ _ xs _ _ h hn).mono ?_
      rw [HV.out]
      rintro e w1 ⟨rfl, b1⟩
      go_wp2_with fail
      refine (powerFor_any _ _).mono ?_
      rw [HW.out]
      rintro e w' ⟨rfl, rfl⟩
      have hm0 : ¬ ((m : Int) < 0) := by omega
      go_wp2_with fail
      refine (freeByOrders_any A n c xs p w1 (h.up b1) HV.out).mono ?_
      rintro e w2 ⟨A', N, C, rfl, fl2, b2⟩
      rw [← HL.out] at fl2
      obtain ⟨hI, hN⟩ := fl_all HV.out fl2
      have bb2 := b1.trans (b2.mono b1.size)
      clear fl2
      go_wp2_with fail
      refine (leastFrom_any A' N C _ m w2 hI hm8 hN).mono ?_
      rintro e w3 ⟨rfl, b3⟩
      have bb3 := bb2.trans (b3.mono bb2.size)
      clear hI hN b2 b3 b1 bb2
      obtain ⟨B, hB⟩ : ∃ B, Bks.bestTo xs m xs.length = B := ⟨_, rfl⟩
      have HBB := Lib.hid hB
      have HBE := Lib.hid (show Bud.bestY xs size = B by rw [HB.out, hB])
      clear hB
      cases B with
      | none =>
        rw [Bud.least_none HV.out HBB.out]
        go_wp2_with fail
        refine (cloneY_any _ _ _ xs _ (h.up bb3) hn).mono ?_
        rintro e w4 ⟨v4, rfl, o4, b4⟩
        go_wp2_with fail
        go_ret3
        exact GaveY3.of (o4.base bb3.size) (bb3.trans (b4.mono bb3.size)) (by rw [Bud.takeY, HBE.out]) (by rw [Bud.startY, HBE.out]) (by rw [Bud.okY, HBE.out]; rfl)
      | some b =>
        obtain ⟨hbl, x, hx, hfx, _⟩ := (Bks.bestTo_spec xs m xs.length (Nat.le_refl _)).2 b HBB.out
        rw [Bks.fits_iff] at hfx
        rw [Bud.least_some HV.out HBB.out hx]
        obtain ⟨s, j, e1, e2, e3, e4, e5, e6⟩ := Bud.valid_mult HV.out hx
        have hbn : b < n := by rw [HL.out] at hbl; exact hbl
        have hfrom := Bud.from_start HAS.out hx
        rw [e1] at hfrom ⊢
        have hp2 := Nat.two_pow_pos j
        have hs256 : s ≤ 256 := by omega
        have hmj : m ≤ j := by omega
        have hs0 : ¬ ((s : Int) < 0) := by omega
        have HX := Lib.hid hx
        have HXS := Lib.hid e1
        have HXZ := Lib.hid e2
        have HXU := Lib.hid hfx.1
        have HMU := Lib.hid e3
        clear hx e1 e2 e3 e4 e6 hfx hp2 hbl
        go_wp2_with fail
        refine (buddyFrom_any A n c xs s w3 (h.up bb3) hn5 HAS.out).mono ?_
        rw [hfrom]
        rintro e w4 ⟨rfl, b4⟩
        have bb4 := bb3.trans (b4.mono bb3.size)
        clear b4 bb3
        obtain ⟨g, o, x', rfl, hg, hx', _, _, c1, c2, c3⟩ := (h.below bb4).at_ hbn
        obtain rfl : x' = x := Option.some.inj (hx'.symm.trans HX.out)
        rw [HXS.out] at c1
        rw [HXZ.out] at c2
        rw [HXU.out] at c3
        have hbn' : (b : Int) < n := by omega
        clear hx'
        go_wp2_with fail
        refine (halved_any s j m false w4 HMU.out hs256 e5 hmj).mono ?_
        rintro e w5 ⟨v5, rfl, o5, b5⟩
        have bb5 := bb4.trans (b5.mono bb4.size)
        have HTK := Lib.hid (show Bud.takeY xs size = xs.take b ++ ([(⟨s, m, true⟩ : Bl)] ++ Bud.halvesY s m (j - m)) ++ xs.drop (b + 1) by
          rw [Bud.takeY, HBE.out, HW.out]
          simp only [List.getD_eq_getElem?_getD, HX.out, Option.getD_some, Bud.takenY, HXS.out, HXZ.out, Int.toNat_natCast]
          simp)
        have HST := Lib.hid (show Bud.startY xs size = s by
          rw [Bud.startY, HBE.out]
          simp only [List.getD_eq_getElem?_getD, HX.out, Option.getD_some, HXS.out])
        have HOK := Lib.hid (show Bud.okY xs size = true by rw [Bud.okY, HBE.out]; rfl)
        have hlp : ([(⟨s, m, true⟩ : Bl)] ++ Bud.halvesY s m (j - m)).length ≤ 10 := by simp [Bud.halvesY_len]; omega
        have hai : AllI ([(⟨s, m, true⟩ : Bl)] ++ Bud.halvesY s m (j - m)) := by
          intro k y hy
          rcases List.mem_append.1 (List.mem_of_getElem? hy) with hm | hm
          · simp at hm
            subst hm
            exact ⟨⟨by simp <;> omega, by simp <;> omega⟩, ⟨by simp <;> omega, by simp <;> omega⟩⟩
          · unfold Bud.halvesY at hm
            obtain ⟨q, hq, rfl⟩ := List.mem_map.1 hm
            have hq' : q < j - m := by simpa using hq
            have := Bud.two_pow_le (j := m + q) (by omega)
            have t1 : (2 : Int) ^ (m + q) ≤ 256 := by rw [pow_int]; omega
            have t2 : 1 ≤ (2 : Int) ^ (m + q) := by rw [pow_int]; omega
            exact ⟨⟨by simp only; omega, by simp only; omega⟩, ⟨by simp only; omega, by simp only; omega⟩⟩
        generalize hXp : ([(⟨s, m, true⟩ : Bl)] ++ Bud.halvesY s m (j - m)) = Xp at *
        obtain ⟨Ap, cp, rfl, _⟩ := o5.form
        have HPR0 := o5.reads hai
        obtain ⟨np, hnp⟩ : ∃ np, Xp.length = np := ⟨_, rfl⟩
        rw [hnp] at HPR0 hlp ⊢
        clear hnp hai hXp c1 c2 c3 o5
        have u3 : (b : Int) + 1 ≤ n := by omega
        have u6 : (b : Int) + 1 ≤ c := by omega
        have u4 : 0 ≤ (b : Int) + 1 := by omega
        have u5 : ((b : Int) + 1).toNat = b + 1 := by omega
        have hbc : (b : Int) ≤ c := by omega
        obtain ⟨W0, hW0⟩ : ∃ W0, W0 = w5.drew := ⟨_, rfl⟩
        have bW0 : Below w.heap.size w W0 := by rw [hW0]; exact bb5.drew
        have HBS := Lib.hid (h.up bW0)
        have HPR := Lib.hid (show BS W0 W0.heap.size Ap np Xp by rw [hW0]; exact HPR0.up (Below.refl _ _).drew)
        clear HPR0
        by_cases hcap : c = b + 1
        · obtain rfl : n = b + 1 := by omega
          subst hcap
          have HD := Lib.hid (show xs.drop (b + 1) = [] from List.drop_eq_nil_of_le (by rw [HL.out]; omega))
          have hkc : (b : Int) ≤ (b : Int) + 1 := by omega
          have HTL := Lib.hid (fun W' (_ : Below W0.heap.size W0 W') => BS.none_ W' W'.heap.size (some (⟨g, o, none⟩ : Addr)))
          have hW0' := Lib.hid hW0
          clear hW0
          go_wp2_with fail
          have h0W : Below W0.heap.size W0 w5.drew := by rw [hW0'.out]; exact Below.refl _ _
          refine wp_region_inv (by kernel_rfl) (by kernel_rfl) (fun L a ww => ∃ t6 t7 t8 t40 t41 t42 t43 t44 t45 t46 t47 t48 t49 t50 : Value, a = { tmps := #[.slice (some ⟨g, o, none⟩) (b + 1) (b + 1), .int .i64 p, .int .i64 size, undef, undef, undef, t6, t7, t8, .int .i64 m, .int .i64 s, .int .i64 b, .slice Ap np cp, .slice (some ⟨g, o, none⟩) (b + 1) (b + 1), .int .i64 p, .bool true, .bool false, .int .i64 size, .int .i64 m, .int .i64 m, .bool (decide ((m : Int) < 0)), undef, undef, .slice (some ⟨g, o, none⟩) (b + 1) (b + 1), .agg (flv A' N C), .int .i64 m, .int .i64 s, .int .i64 s, .bool (decide ((s : Int) < 0)), undef, undef, .slice (some ⟨g, o, none⟩) (b + 1) (b + 1), .int .i64 s, .int .i64 b, .slice (some ⟨g, o, none⟩) (b + 1) (b + 1), .int .i64 b, .pointer (some ⟨g, o + b * 3, none⟩), .agg #[.int .i64 s, .int .i64 j, .bool false], .int .i64 m, .slice Ap np cp, t40, t41, t42, t43, t44, t45, t46, t47, t48, t49, t50], defers := [] } ∧ (Below W0.heap.size W0 ww) ∧ (L 9 = true → L 8 = true) ∧ (L 0 = true → t40 = .slice (some ⟨g, o, none⟩) (b + 1) (b + 1)) ∧ (L 1 = true → t41 = .int .i64 b) ∧ (L 2 = true → t42 = .slice (some ⟨g, o, none⟩) b (b + 1)) ∧ (L 3 = true → t43 = .slice Ap np cp) ∧ (L 4 = true → t44 = .slice (some ⟨g, o, none⟩) (b + 1) (b + 1)) ∧ (L 5 = true → t45 = .int .i64 b) ∧ (L 6 = true → t46 = .int .i64 ((b : Int) + 1)) ∧ (L 7 = true → t47 = .slice (some ⟨g, o, none⟩) 0 0) ∧ (L 8 = true → ∃ W', t48 = .slice (some ⟨W'.heap.size, 0, none⟩) 3 3 ∧ Below W0.heap.size W0 W' ∧ (L 9 = false → ww = W'.alloc (.cells #[.slice (some ⟨g, o, none⟩) b (b + 1), .slice Ap np cp, .slice (some ⟨g, o, none⟩) 0 0] 27))) ∧ (L 9 = true → OwnY ww W0.heap.size t49 (xs.take b ++ Xp ++ [])) ∧ (L 10 = true → t50 = .int .i64 s) ∧ (L 11 = true → L 9 = true ∧ t6 = t49) ∧ (L 12 = true → t7 = .int .i64 s) ∧ (L 13 = true → t8 = .bool true)) ?h0 ?hstep ?hdone
          case h0 => exact ⟨_, _, _, _, _, _, _, _, _, _, _, _, _, _, rfl, h0W, (fun h => absurd h Bool.false_ne_true), (fun h => absurd h Bool.false_ne_true), (fun h => absurd h Bool.false_ne_true), (fun h => absurd h Bool.false_ne_true), (fun h => absurd h Bool.false_ne_true), (fun h => absurd h Bool.false_ne_true), (fun h => absurd h Bool.false_ne_true), (fun h => absurd h Bool.false_ne_true), (fun h => absurd h Bool.false_ne_true), (fun h => absurd h Bool.false_ne_true), (fun h => absurd h Bool.false_ne_true), (fun h => absurd h Bool.false_ne_true), (fun h => absurd h Bool.false_ne_true), (fun h => absurd h Bool.false_ne_true), (fun h => absurd h Bool.false_ne_true)⟩
          case hstep =>
            rintro L a ww i o ho hL hd ⟨t6, t7, t8, t40, t41, t42, t43, t44, t45, t46, t47, t48, t49, t50, rfl, I0, I1, f0, f1, f2, f3, f4, f5, f6, f7, f8, f9, f10, f11, f12, f13⟩
            have hi : i < 14 := (Array.getElem?_eq_some_iff.1 ho).1
            obtain rfl | rfl | rfl | rfl | rfl | rfl | rfl | rfl | rfl | rfl | rfl | rfl | rfl | rfl : i = 0 ∨ i = 1 ∨ i = 2 ∨ i = 3 ∨ i = 4 ∨ i = 5 ∨ i = 6 ∨ i = 7 ∨ i = 8 ∨ i = 9 ∨ i = 10 ∨ i = 11 ∨ i = 12 ∨ i = 13 := by omega
            · obtain rfl := Option.some.inj ho
              refine wpOp_step rfl (fun K' hK => ?_)
              go_simp
              refine hK _ _ ?_
              exact ⟨_, _, _, _, _, _, _, _, _, _, _, _, _, _, rfl, (I0), (fun h => upd_mono (I1 (upd_ne h (by decide)))), (fun _ => rfl), (fun h => f1 (upd_ne h (by decide))), (fun h => f2 (upd_ne h (by decide))), (fun h => f3 (upd_ne h (by decide))), (fun h => f4 (upd_ne h (by decide))), (fun h => f5 (upd_ne h (by decide))), (fun h => f6 (upd_ne h (by decide))), (fun h => f7 (upd_ne h (by decide))), (fun h => by
                  obtain ⟨W', e1, e2, e3⟩ := f8 (upd_ne h (by decide))
                  exact ⟨W', e1, e2, fun h9 => e3 (by rw [upd_other (by decide)] at h9; exact h9)⟩), (fun h => f9 (upd_ne h (by decide))), (fun h => f10 (upd_ne h (by decide))), (fun h => ⟨upd_mono (f11 (upd_ne h (by decide))).1, (f11 (upd_ne h (by decide))).2⟩), (fun h => f12 (upd_ne h (by decide))), (fun h => f13 (upd_ne h (by decide)))⟩
            · obtain rfl := Option.some.inj ho
              refine wpOp_step rfl (fun K' hK => ?_)
              go_simp
              refine hK _ _ ?_
              exact ⟨_, _, _, _, _, _, _, _, _, _, _, _, _, _, rfl, (I0), (fun h => upd_mono (I1 (upd_ne h (by decide)))), (fun h => f0 (upd_ne h (by decide))), (fun _ => rfl), (fun h => f2 (upd_ne h (by decide))), (fun h => f3 (upd_ne h (by decide))), (fun h => f4 (upd_ne h (by decide))), (fun h => f5 (upd_ne h (by decide))), (fun h => f6 (upd_ne h (by decide))), (fun h => f7 (upd_ne h (by decide))), (fun h => by
                  obtain ⟨W', e1, e2, e3⟩ := f8 (upd_ne h (by decide))
                  exact ⟨W', e1, e2, fun h9 => e3 (by rw [upd_other (by decide)] at h9; exact h9)⟩), (fun h => f9 (upd_ne h (by decide))), (fun h => f10 (upd_ne h (by decide))), (fun h => ⟨upd_mono (f11 (upd_ne h (by decide))).1, (f11 (upd_ne h (by decide))).2⟩), (fun h => f12 (upd_ne h (by decide))), (fun h => f13 (upd_ne h (by decide)))⟩
            · obtain rfl := Option.some.inj ho
              have g0 := f0 (hd ⟨0, .data⟩ (by simp) rfl)
              have g1 := f1 (hd ⟨1, .data⟩ (by simp) rfl)
              subst g0
              subst g1
              refine wpOp_step rfl (fun K' hK => ?_)
              go_simp
              refine hK _ _ ?_
              exact ⟨_, _, _, _, _, _, _, _, _, _, _, _, _, _, rfl, (I0), (fun h => upd_mono (I1 (upd_ne h (by decide)))), (fun h => f0 (upd_ne h (by decide))), (fun h => f1 (upd_ne h (by decide))), (fun _ => rfl), (fun h => f3 (upd_ne h (by decide))), (fun h => f4 (upd_ne h (by decide))), (fun h => f5 (upd_ne h (by decide))), (fun h => f6 (upd_ne h (by decide))), (fun h => f7 (upd_ne h (by decide))), (fun h => by
                  obtain ⟨W', e1, e2, e3⟩ := f8 (upd_ne h (by decide))
                  exact ⟨W', e1, e2, fun h9 => e3 (by rw [upd_other (by decide)] at h9; exact h9)⟩), (fun h => f9 (upd_ne h (by decide))), (fun h => f10 (upd_ne h (by decide))), (fun h => ⟨upd_mono (f11 (upd_ne h (by decide))).1, (f11 (upd_ne h (by decide))).2⟩), (fun h => f12 (upd_ne h (by decide))), (fun h => f13 (upd_ne h (by decide)))⟩
            · obtain rfl := Option.some.inj ho
              refine wpOp_step rfl (fun K' hK => ?_)
              go_simp
              refine hK _ _ ?_
              exact ⟨_, _, _, _, _, _, _, _, _, _, _, _, _, _, rfl, (I0), (fun h => upd_mono (I1 (upd_ne h (by decide)))), (fun h => f0 (upd_ne h (by decide))), (fun h => f1 (upd_ne h (by decide))), (fun h => f2 (upd_ne h (by decide))), (fun _ => rfl), (fun h => f4 (upd_ne h (by decide))), (fun h => f5 (upd_ne h (by decide))), (fun h => f6 (upd_ne h (by decide))), (fun h => f7 (upd_ne h (by decide))), (fun h => by
                  obtain ⟨W', e1, e2, e3⟩ := f8 (upd_ne h (by decide))
                  exact ⟨W', e1, e2, fun h9 => e3 (by rw [upd_other (by decide)] at h9; exact h9)⟩), (fun h => f9 (upd_ne h (by decide))), (fun h => f10 (upd_ne h (by decide))), (fun h => ⟨upd_mono (f11 (upd_ne h (by decide))).1, (f11 (upd_ne h (by decide))).2⟩), (fun h => f12 (upd_ne h (by decide))), (fun h => f13 (upd_ne h (by decide)))⟩
            · obtain rfl := Option.some.inj ho
              refine wpOp_step rfl (fun K' hK => ?_)
              go_simp
              refine hK _ _ ?_
              exact ⟨_, _, _, _, _, _, _, _, _, _, _, _, _, _, rfl, (I0), (fun h => upd_mono (I1 (upd_ne h (by decide)))), (fun h => f0 (upd_ne h (by decide))), (fun h => f1 (upd_ne h (by decide))), (fun h => f2 (upd_ne h (by decide))), (fun h => f3 (upd_ne h (by decide))), (fun _ => rfl), (fun h => f5 (upd_ne h (by decide))), (fun h => f6 (upd_ne h (by decide))), (fun h => f7 (upd_ne h (by decide))), (fun h => by
                  obtain ⟨W', e1, e2, e3⟩ := f8 (upd_ne h (by decide))
                  exact ⟨W', e1, e2, fun h9 => e3 (by rw [upd_other (by decide)] at h9; exact h9)⟩), (fun h => f9 (upd_ne h (by decide))), (fun h => f10 (upd_ne h (by decide))), (fun h => ⟨upd_mono (f11 (upd_ne h (by decide))).1, (f11 (upd_ne h (by decide))).2⟩), (fun h => f12 (upd_ne h (by decide))), (fun h => f13 (upd_ne h (by decide)))⟩
            · obtain rfl := Option.some.inj ho
              refine wpOp_step rfl (fun K' hK => ?_)
              go_simp
              refine hK _ _ ?_
              exact ⟨_, _, _, _, _, _, _, _, _, _, _, _, _, _, rfl, (I0), (fun h => upd_mono (I1 (upd_ne h (by decide)))), (fun h => f0 (upd_ne h (by decide))), (fun h => f1 (upd_ne h (by decide))), (fun h => f2 (upd_ne h (by decide))), (fun h => f3 (upd_ne h (by decide))), (fun h => f4 (upd_ne h (by decide))), (fun _ => rfl), (fun h => f6 (upd_ne h (by decide))), (fun h => f7 (upd_ne h (by decide))), (fun h => by
                  obtain ⟨W', e1, e2, e3⟩ := f8 (upd_ne h (by decide))
                  exact ⟨W', e1, e2, fun h9 => e3 (by rw [upd_other (by decide)] at h9; exact h9)⟩), (fun h => f9 (upd_ne h (by decide))), (fun h => f10 (upd_ne h (by decide))), (fun h => ⟨upd_mono (f11 (upd_ne h (by decide))).1, (f11 (upd_ne h (by decide))).2⟩), (fun h => f12 (upd_ne h (by decide))), (fun h => f13 (upd_ne h (by decide)))⟩
            · obtain rfl := Option.some.inj ho
              have g5 := f5 (hd ⟨5, .data⟩ (by simp) rfl)
              subst g5
              have hw : IntKind.i64.wrap ((b : Int) + 1) = (b : Int) + 1 := IntWalk.i64_in _ (by omega)
              refine wpOp_step rfl (fun K' hK => ?_)
              go_simp
              refine hK _ _ ?_
              clear hw
              exact ⟨_, _, _, _, _, _, _, _, _, _, _, _, _, _, rfl, (I0), (fun h => upd_mono (I1 (upd_ne h (by decide)))), (fun h => f0 (upd_ne h (by decide))), (fun h => f1 (upd_ne h (by decide))), (fun h => f2 (upd_ne h (by decide))), (fun h => f3 (upd_ne h (by decide))), (fun h => f4 (upd_ne h (by decide))), (fun h => f5 (upd_ne h (by decide))), (fun _ => rfl), (fun h => f7 (upd_ne h (by decide))), (fun h => by
                  obtain ⟨W', e1, e2, e3⟩ := f8 (upd_ne h (by decide))
                  exact ⟨W', e1, e2, fun h9 => e3 (by rw [upd_other (by decide)] at h9; exact h9)⟩), (fun h => f9 (upd_ne h (by decide))), (fun h => f10 (upd_ne h (by decide))), (fun h => ⟨upd_mono (f11 (upd_ne h (by decide))).1, (f11 (upd_ne h (by decide))).2⟩), (fun h => f12 (upd_ne h (by decide))), (fun h => f13 (upd_ne h (by decide)))⟩
            · obtain rfl := Option.some.inj ho
              have g4 := f4 (hd ⟨4, .data⟩ (by simp) rfl)
              have g6 := f6 (hd ⟨6, .data⟩ (by simp) rfl)
              subst g4
              subst g6
              refine wpOp_step rfl (fun K' hK => ?_)
              go_simp
              refine hK _ _ ?_
              exact ⟨_, _, _, _, _, _, _, _, _, _, _, _, _, _, rfl, (I0), (fun h => upd_mono (I1 (upd_ne h (by decide)))), (fun h => f0 (upd_ne h (by decide))), (fun h => f1 (upd_ne h (by decide))), (fun h => f2 (upd_ne h (by decide))), (fun h => f3 (upd_ne h (by decide))), (fun h => f4 (upd_ne h (by decide))), (fun h => f5 (upd_ne h (by decide))), (fun h => f6 (upd_ne h (by decide))), (fun _ => rfl), (fun h => by
                  obtain ⟨W', e1, e2, e3⟩ := f8 (upd_ne h (by decide))
                  exact ⟨W', e1, e2, fun h9 => e3 (by rw [upd_other (by decide)] at h9; exact h9)⟩), (fun h => f9 (upd_ne h (by decide))), (fun h => f10 (upd_ne h (by decide))), (fun h => ⟨upd_mono (f11 (upd_ne h (by decide))).1, (f11 (upd_ne h (by decide))).2⟩), (fun h => f12 (upd_ne h (by decide))), (fun h => f13 (upd_ne h (by decide)))⟩
            · obtain rfl := Option.some.inj ho
              have g2 := f2 (hd ⟨2, .data⟩ (by simp) rfl)
              have g3 := f3 (hd ⟨3, .data⟩ (by simp) rfl)
              have g7 := f7 (hd ⟨7, .data⟩ (by simp) rfl)
              subst g2
              subst g3
              subst g7
              have h9 : L 9 = false := by
                cases hh : L 9
                · rfl
                · exact absurd ((I1 hh).symm.trans hL) (by decide)
              refine wpOp_step rfl (fun K' hK => ?_)
              go_simp
              refine hK _ _ ?_
              exact ⟨_, _, _, _, _, _, _, _, _, _, _, _, _, _, rfl, (I0.alloc I0.size _), (fun _ => upd_self), (fun h => f0 (upd_ne h (by decide))), (fun h => f1 (upd_ne h (by decide))), (fun h => f2 (upd_ne h (by decide))), (fun h => f3 (upd_ne h (by decide))), (fun h => f4 (upd_ne h (by decide))), (fun h => f5 (upd_ne h (by decide))), (fun h => f6 (upd_ne h (by decide))), (fun h => f7 (upd_ne h (by decide))), (fun _ => ⟨ww, rfl, I0, fun _ => rfl⟩), (fun h => absurd ((upd_ne h (by decide)).symm.trans h9) (by decide)), (fun h => f10 (upd_ne h (by decide))), (fun h => ⟨upd_mono (f11 (upd_ne h (by decide))).1, (f11 (upd_ne h (by decide))).2⟩), (fun h => f12 (upd_ne h (by decide))), (fun h => f13 (upd_ne h (by decide)))⟩
            · obtain rfl := Option.some.inj ho
              have g8 := f8 (hd ⟨8, .data⟩ (by simp) rfl)
              obtain ⟨W', rfl, e2, e3⟩ := g8
              have e4 := e3 hL
              subst e4
              refine wpOp_step rfl (fun K' hK => ?_)
              go_simp
              refine (concat3Y W' _ (some ⟨g, o, none⟩) Ap (some ⟨g, o, none⟩) b np (0) (b + 1) cp (0) (xs.take b) Xp ([]) (((HBS.out.up e2).take (by omega))) (HPR.out.up e2) (HTL.out W' e2) (by omega)).mono ?_
              rintro e w' ⟨v9, rfl, o9, b9⟩
              refine hK _ _ ?_
              exact ⟨_, _, _, _, _, _, _, _, _, _, _, _, _, _, rfl, (e2.trans (b9.mono e2.size)), (fun _ => upd_mono (hd ⟨8, .data⟩ (by simp) rfl)), (fun h => f0 (upd_ne h (by decide))), (fun h => f1 (upd_ne h (by decide))), (fun h => f2 (upd_ne h (by decide))), (fun h => f3 (upd_ne h (by decide))), (fun h => f4 (upd_ne h (by decide))), (fun h => f5 (upd_ne h (by decide))), (fun h => f6 (upd_ne h (by decide))), (fun h => f7 (upd_ne h (by decide))), (fun _ => ⟨W', rfl, e2, fun h => absurd (upd_self.symm.trans h) (by decide)⟩), (fun _ => o9.base e2.size), (fun h => f10 (upd_ne h (by decide))), (fun h => absurd ((f11 (upd_ne h (by decide))).1.symm.trans hL) (by decide)), (fun h => f12 (upd_ne h (by decide))), (fun h => f13 (upd_ne h (by decide)))⟩
            · obtain rfl := Option.some.inj ho
              refine wpOp_step rfl (fun K' hK => ?_)
              go_simp
              refine hK _ _ ?_
              exact ⟨_, _, _, _, _, _, _, _, _, _, _, _, _, _, rfl, (I0), (fun h => upd_mono (I1 (upd_ne h (by decide)))), (fun h => f0 (upd_ne h (by decide))), (fun h => f1 (upd_ne h (by decide))), (fun h => f2 (upd_ne h (by decide))), (fun h => f3 (upd_ne h (by decide))), (fun h => f4 (upd_ne h (by decide))), (fun h => f5 (upd_ne h (by decide))), (fun h => f6 (upd_ne h (by decide))), (fun h => f7 (upd_ne h (by decide))), (fun h => by
                  obtain ⟨W', e1, e2, e3⟩ := f8 (upd_ne h (by decide))
                  exact ⟨W', e1, e2, fun h9 => e3 (by rw [upd_other (by decide)] at h9; exact h9)⟩), (fun h => f9 (upd_ne h (by decide))), (fun _ => rfl), (fun h => ⟨upd_mono (f11 (upd_ne h (by decide))).1, (f11 (upd_ne h (by decide))).2⟩), (fun h => f12 (upd_ne h (by decide))), (fun h => f13 (upd_ne h (by decide)))⟩
            · obtain rfl := Option.some.inj ho
              have g9 := f9 (hd ⟨9, .data⟩ (by simp) rfl)
              refine wpOp_step rfl (fun K' hK => ?_)
              go_simp
              refine hK _ _ ?_
              exact ⟨_, _, _, _, _, _, _, _, _, _, _, _, _, _, rfl, (I0), (fun h => upd_mono (I1 (upd_ne h (by decide)))), (fun h => f0 (upd_ne h (by decide))), (fun h => f1 (upd_ne h (by decide))), (fun h => f2 (upd_ne h (by decide))), (fun h => f3 (upd_ne h (by decide))), (fun h => f4 (upd_ne h (by decide))), (fun h => f5 (upd_ne h (by decide))), (fun h => f6 (upd_ne h (by decide))), (fun h => f7 (upd_ne h (by decide))), (fun h => by
                  obtain ⟨W', e1, e2, e3⟩ := f8 (upd_ne h (by decide))
                  exact ⟨W', e1, e2, fun h9 => e3 (by rw [upd_other (by decide)] at h9; exact h9)⟩), (fun h => f9 (upd_ne h (by decide))), (fun h => f10 (upd_ne h (by decide))), (fun _ => ⟨upd_mono (hd ⟨9, .data⟩ (by simp) rfl), rfl⟩), (fun h => f12 (upd_ne h (by decide))), (fun h => f13 (upd_ne h (by decide)))⟩
            · obtain rfl := Option.some.inj ho
              have g10 := f10 (hd ⟨10, .data⟩ (by simp) rfl)
              subst g10
              refine wpOp_step rfl (fun K' hK => ?_)
              go_simp
              refine hK _ _ ?_
              exact ⟨_, _, _, _, _, _, _, _, _, _, _, _, _, _, rfl, (I0), (fun h => upd_mono (I1 (upd_ne h (by decide)))), (fun h => f0 (upd_ne h (by decide))), (fun h => f1 (upd_ne h (by decide))), (fun h => f2 (upd_ne h (by decide))), (fun h => f3 (upd_ne h (by decide))), (fun h => f4 (upd_ne h (by decide))), (fun h => f5 (upd_ne h (by decide))), (fun h => f6 (upd_ne h (by decide))), (fun h => f7 (upd_ne h (by decide))), (fun h => by
                  obtain ⟨W', e1, e2, e3⟩ := f8 (upd_ne h (by decide))
                  exact ⟨W', e1, e2, fun h9 => e3 (by rw [upd_other (by decide)] at h9; exact h9)⟩), (fun h => f9 (upd_ne h (by decide))), (fun h => f10 (upd_ne h (by decide))), (fun h => ⟨upd_mono (f11 (upd_ne h (by decide))).1, (f11 (upd_ne h (by decide))).2⟩), (fun _ => rfl), (fun h => f13 (upd_ne h (by decide)))⟩
            · obtain rfl := Option.some.inj ho
              refine wpOp_step rfl (fun K' hK => ?_)
              go_simp
              refine hK _ _ ?_
              exact ⟨_, _, _, _, _, _, _, _, _, _, _, _, _, _, rfl, (I0), (fun h => upd_mono (I1 (upd_ne h (by decide)))), (fun h => f0 (upd_ne h (by decide))), (fun h => f1 (upd_ne h (by decide))), (fun h => f2 (upd_ne h (by decide))), (fun h => f3 (upd_ne h (by decide))), (fun h => f4 (upd_ne h (by decide))), (fun h => f5 (upd_ne h (by decide))), (fun h => f6 (upd_ne h (by decide))), (fun h => f7 (upd_ne h (by decide))), (fun h => by
                  obtain ⟨W', e1, e2, e3⟩ := f8 (upd_ne h (by decide))
                  exact ⟨W', e1, e2, fun h9 => e3 (by rw [upd_other (by decide)] at h9; exact h9)⟩), (fun h => f9 (upd_ne h (by decide))), (fun h => f10 (upd_ne h (by decide))), (fun h => ⟨upd_mono (f11 (upd_ne h (by decide))).1, (f11 (upd_ne h (by decide))).2⟩), (fun h => f12 (upd_ne h (by decide))), (fun _ => rfl)⟩
          case hdone =>
            rintro L a ww hall ⟨t6, t7, t8, t40, t41, t42, t43, t44, t45, t46, t47, t48, t49, t50, rfl, I0, I1, f0, f1, f2, f3, f4, f5, f6, f7, f8, f9, f10, f11, f12, f13⟩
            have e0 := f0 (hall 0 (by decide))
            have e1 := f1 (hall 1 (by decide))
            have e2 := f2 (hall 2 (by decide))
            have e3 := f3 (hall 3 (by decide))
            have e4 := f4 (hall 4 (by decide))
            have e5' := f5 (hall 5 (by decide))
            have e6 := f6 (hall 6 (by decide))
            have e7 := f7 (hall 7 (by decide))
            have e8 := f8 (hall 8 (by decide))
            have e9 := f9 (hall 9 (by decide))
            have e10 := f10 (hall 10 (by decide))
            have e11 := f11 (hall 11 (by decide))
            have e12 := f12 (hall 12 (by decide))
            have e13 := f13 (hall 13 (by decide))
            clear f0 f1 f2 f3 f4 f5 f6 f7 f8 f9 f10 f11 f12 f13
            obtain ⟨_, rfl⟩ := e11
            subst e12 e13
            clear e0 e1 e2 e3 e4 e5' e6 e7 e8 e10
            go_wp2_with fail
            go_ret3
            exact GaveY3.of (e9.base bW0.size) (bW0.trans (I0.mono bW0.size)) (by rw [HTK.out]; rw [HD.out]) HST.out.symm HOK.out.symm
        · have HTL := Lib.hid (fun W' (e2 : Below W0.heap.size W0 W') => (HBS.out.up e2).drop (k := b + 1) (by omega))
          have hW0' := Lib.hid hW0
          clear hW0
          go_wp2_with fail
          have h0W : Below W0.heap.size W0 w5.drew := by rw [hW0'.out]; exact Below.refl _ _
          refine wp_region_inv (by kernel_rfl) (by kernel_rfl) (fun L a ww => ∃ t6 t7 t8 t40 t41 t42 t43 t44 t45 t46 t47 t48 t49 t50 : Value, a = { tmps := #[.slice (some ⟨g, o, none⟩) n c, .int .i64 p, .int .i64 size, undef, undef, undef, t6, t7, t8, .int .i64 m, .int .i64 s, .int .i64 b, .slice Ap np cp, .slice (some ⟨g, o, none⟩) n c, .int .i64 p, .bool true, .bool false, .int .i64 size, .int .i64 m, .int .i64 m, .bool (decide ((m : Int) < 0)), undef, undef, .slice (some ⟨g, o, none⟩) n c, .agg (flv A' N C), .int .i64 m, .int .i64 s, .int .i64 s, .bool (decide ((s : Int) < 0)), undef, undef, .slice (some ⟨g, o, none⟩) n c, .int .i64 s, .int .i64 b, .slice (some ⟨g, o, none⟩) n c, .int .i64 b, .pointer (some ⟨g, o + b * 3, none⟩), .agg #[.int .i64 s, .int .i64 j, .bool false], .int .i64 m, .slice Ap np cp, t40, t41, t42, t43, t44, t45, t46, t47, t48, t49, t50], defers := [] } ∧ (Below W0.heap.size W0 ww) ∧ (L 9 = true → L 8 = true) ∧ (L 0 = true → t40 = .slice (some ⟨g, o, none⟩) n c) ∧ (L 1 = true → t41 = .int .i64 b) ∧ (L 2 = true → t42 = .slice (some ⟨g, o, none⟩) b c) ∧ (L 3 = true → t43 = .slice Ap np cp) ∧ (L 4 = true → t44 = .slice (some ⟨g, o, none⟩) n c) ∧ (L 5 = true → t45 = .int .i64 b) ∧ (L 6 = true → t46 = .int .i64 ((b : Int) + 1)) ∧ (L 7 = true → t47 = .slice (some ⟨g, o + (b + 1) * 3, none⟩) (n - (b + 1)) (c - (b + 1))) ∧ (L 8 = true → ∃ W', t48 = .slice (some ⟨W'.heap.size, 0, none⟩) 3 3 ∧ Below W0.heap.size W0 W' ∧ (L 9 = false → ww = W'.alloc (.cells #[.slice (some ⟨g, o, none⟩) b c, .slice Ap np cp, .slice (some ⟨g, o + (b + 1) * 3, none⟩) (n - (b + 1)) (c - (b + 1))] 27))) ∧ (L 9 = true → OwnY ww W0.heap.size t49 (xs.take b ++ Xp ++ xs.drop (b + 1))) ∧ (L 10 = true → t50 = .int .i64 s) ∧ (L 11 = true → L 9 = true ∧ t6 = t49) ∧ (L 12 = true → t7 = .int .i64 s) ∧ (L 13 = true → t8 = .bool true)) ?h0 ?hstep ?hdone
          case h0 => exact ⟨_, _, _, _, _, _, _, _, _, _, _, _, _, _, rfl, h0W, (fun h => absurd h Bool.false_ne_true), (fun h => absurd h Bool.false_ne_true), (fun h => absurd h Bool.false_ne_true), (fun h => absurd h Bool.false_ne_true), (fun h => absurd h Bool.false_ne_true), (fun h => absurd h Bool.false_ne_true), (fun h => absurd h Bool.false_ne_true), (fun h => absurd h Bool.false_ne_true), (fun h => absurd h Bool.false_ne_true), (fun h => absurd h Bool.false_ne_true), (fun h => absurd h Bool.false_ne_true), (fun h => absurd h Bool.false_ne_true), (fun h => absurd h Bool.false_ne_true), (fun h => absurd h Bool.false_ne_true), (fun h => absurd h Bool.false_ne_true)⟩
          case hstep =>
            rintro L a ww i o ho hL hd ⟨t6, t7, t8, t40, t41, t42, t43, t44, t45, t46, t47, t48, t49, t50, rfl, I0, I1, f0, f1, f2, f3, f4, f5, f6, f7, f8, f9, f10, f11, f12, f13⟩
            have hi : i < 14 := (Array.getElem?_eq_some_iff.1 ho).1
            obtain rfl | rfl | rfl | rfl | rfl | rfl | rfl | rfl | rfl | rfl | rfl | rfl | rfl | rfl : i = 0 ∨ i = 1 ∨ i = 2 ∨ i = 3 ∨ i = 4 ∨ i = 5 ∨ i = 6 ∨ i = 7 ∨ i = 8 ∨ i = 9 ∨ i = 10 ∨ i = 11 ∨ i = 12 ∨ i = 13 := by omega
            · obtain rfl := Option.some.inj ho
              refine wpOp_step rfl (fun K' hK => ?_)
              go_simp
              refine hK _ _ ?_
              exact ⟨_, _, _, _, _, _, _, _, _, _, _, _, _, _, rfl, (I0), (fun h => upd_mono (I1 (upd_ne h (by decide)))), (fun _ => rfl), (fun h => f1 (upd_ne h (by decide))), (fun h => f2 (upd_ne h (by decide))), (fun h => f3 (upd_ne h (by decide))), (fun h => f4 (upd_ne h (by decide))), (fun h => f5 (upd_ne h (by decide))), (fun h => f6 (upd_ne h (by decide))), (fun h => f7 (upd_ne h (by decide))), (fun h => by
                  obtain ⟨W', e1, e2, e3⟩ := f8 (upd_ne h (by decide))
                  exact ⟨W', e1, e2, fun h9 => e3 (by rw [upd_other (by decide)] at h9; exact h9)⟩), (fun h => f9 (upd_ne h (by decide))), (fun h => f10 (upd_ne h (by decide))), (fun h => ⟨upd_mono (f11 (upd_ne h (by decide))).1, (f11 (upd_ne h (by decide))).2⟩), (fun h => f12 (upd_ne h (by decide))), (fun h => f13 (upd_ne h (by decide)))⟩
            · obtain rfl := Option.some.inj ho
              refine wpOp_step rfl (fun K' hK => ?_)
              go_simp
              refine hK _ _ ?_
              exact ⟨_, _, _, _, _, _, _, _, _, _, _, _, _, _, rfl, (I0), (fun h => upd_mono (I1 (upd_ne h (by decide)))), (fun h => f0 (upd_ne h (by decide))), (fun _ => rfl), (fun h => f2 (upd_ne h (by decide))), (fun h => f3 (upd_ne h (by decide))), (fun h => f4 (upd_ne h (by decide))), (fun h => f5 (upd_ne h (by decide))), (fun h => f6 (upd_ne h (by decide))), (fun h => f7 (upd_ne h (by decide))), (fun h => by
                  obtain ⟨W', e1, e2, e3⟩ := f8 (upd_ne h (by decide))
                  exact ⟨W', e1, e2, fun h9 => e3 (by rw [upd_other (by decide)] at h9; exact h9)⟩), (fun h => f9 (upd_ne h (by decide))), (fun h => f10 (upd_ne h (by decide))), (fun h => ⟨upd_mono (f11 (upd_ne h (by decide))).1, (f11 (upd_ne h (by decide))).2⟩), (fun h => f12 (upd_ne h (by decide))), (fun h => f13 (upd_ne h (by decide)))⟩
            · obtain rfl := Option.some.inj ho
              have g0 := f0 (hd ⟨0, .data⟩ (by simp) rfl)
              have g1 := f1 (hd ⟨1, .data⟩ (by simp) rfl)
              subst g0
              subst g1
              refine wpOp_step rfl (fun K' hK => ?_)
              go_simp
              refine hK _ _ ?_
              exact ⟨_, _, _, _, _, _, _, _, _, _, _, _, _, _, rfl, (I0), (fun h => upd_mono (I1 (upd_ne h (by decide)))), (fun h => f0 (upd_ne h (by decide))), (fun h => f1 (upd_ne h (by decide))), (fun _ => rfl), (fun h => f3 (upd_ne h (by decide))), (fun h => f4 (upd_ne h (by decide))), (fun h => f5 (upd_ne h (by decide))), (fun h => f6 (upd_ne h (by decide))), (fun h => f7 (upd_ne h (by decide))), (fun h => by
                  obtain ⟨W', e1, e2, e3⟩ := f8 (upd_ne h (by decide))
                  exact ⟨W', e1, e2, fun h9 => e3 (by rw [upd_other (by decide)] at h9; exact h9)⟩), (fun h => f9 (upd_ne h (by decide))), (fun h => f10 (upd_ne h (by decide))), (fun h => ⟨upd_mono (f11 (upd_ne h (by decide))).1, (f11 (upd_ne h (by decide))).2⟩), (fun h => f12 (upd_ne h (by decide))), (fun h => f13 (upd_ne h (by decide)))⟩
            · obtain rfl := Option.some.inj ho
              refine wpOp_step rfl (fun K' hK => ?_)
              go_simp
              refine hK _ _ ?_
              exact ⟨_, _, _, _, _, _, _, _, _, _, _, _, _, _, rfl, (I0), (fun h => upd_mono (I1 (upd_ne h (by decide)))), (fun h => f0 (upd_ne h (by decide))), (fun h => f1 (upd_ne h (by decide))), (fun h => f2 (upd_ne h (by decide))), (fun _ => rfl), (fun h => f4 (upd_ne h (by decide))), (fun h => f5 (upd_ne h (by decide))), (fun h => f6 (upd_ne h (by decide))), (fun h => f7 (upd_ne h (by decide))), (fun h => by
                  obtain ⟨W', e1, e2, e3⟩ := f8 (upd_ne h (by decide))
                  exact ⟨W', e1, e2, fun h9 => e3 (by rw [upd_other (by decide)] at h9; exact h9)⟩), (fun h => f9 (upd_ne h (by decide))), (fun h => f10 (upd_ne h (by decide))), (fun h => ⟨upd_mono (f11 (upd_ne h (by decide))).1, (f11 (upd_ne h (by decide))).2⟩), (fun h => f12 (upd_ne h (by decide))), (fun h => f13 (upd_ne h (by decide)))⟩
            · obtain rfl := Option.some.inj ho
              refine wpOp_step rfl (fun K' hK => ?_)
              go_simp
              refine hK _ _ ?_
              exact ⟨_, _, _, _, _, _, _, _, _, _, _, _, _, _, rfl, (I0), (fun h => upd_mono (I1 (upd_ne h (by decide)))), (fun h => f0 (upd_ne h (by decide))), (fun h => f1 (upd_ne h (by decide))), (fun h => f2 (upd_ne h (by decide))), (fun h => f3 (upd_ne h (by decide))), (fun _ => rfl), (fun h => f5 (upd_ne h (by decide))), (fun h => f6 (upd_ne h (by decide))), (fun h => f7 (upd_ne h (by decide))), (fun h => by
                  obtain ⟨W', e1, e2, e3⟩ := f8 (upd_ne h (by decide))
                  exact ⟨W', e1, e2, fun h9 => e3 (by rw [upd_other (by decide)] at h9; exact h9)⟩), (fun h => f9 (upd_ne h (by decide))), (fun h => f10 (upd_ne h (by decide))), (fun h => ⟨upd_mono (f11 (upd_ne h (by decide))).1, (f11 (upd_ne h (by decide))).2⟩), (fun h => f12 (upd_ne h (by decide))), (fun h => f13 (upd_ne h (by decide)))⟩
            · obtain rfl := Option.some.inj ho
              refine wpOp_step rfl (fun K' hK => ?_)
              go_simp
              refine hK _ _ ?_
              exact ⟨_, _, _, _, _, _, _, _, _, _, _, _, _, _, rfl, (I0), (fun h => upd_mono (I1 (upd_ne h (by decide)))), (fun h => f0 (upd_ne h (by decide))), (fun h => f1 (upd_ne h (by decide))), (fun h => f2 (upd_ne h (by decide))), (fun h => f3 (upd_ne h (by decide))), (fun h => f4 (upd_ne h (by decide))), (fun _ => rfl), (fun h => f6 (upd_ne h (by decide))), (fun h => f7 (upd_ne h (by decide))), (fun h => by
                  obtain ⟨W', e1, e2, e3⟩ := f8 (upd_ne h (by decide))
                  exact ⟨W', e1, e2, fun h9 => e3 (by rw [upd_other (by decide)] at h9; exact h9)⟩), (fun h => f9 (upd_ne h (by decide))), (fun h => f10 (upd_ne h (by decide))), (fun h => ⟨upd_mono (f11 (upd_ne h (by decide))).1, (f11 (upd_ne h (by decide))).2⟩), (fun h => f12 (upd_ne h (by decide))), (fun h => f13 (upd_ne h (by decide)))⟩
            · obtain rfl := Option.some.inj ho
              have g5 := f5 (hd ⟨5, .data⟩ (by simp) rfl)
              subst g5
              have hw : IntKind.i64.wrap ((b : Int) + 1) = (b : Int) + 1 := IntWalk.i64_in _ (by omega)
              refine wpOp_step rfl (fun K' hK => ?_)
              go_simp
              refine hK _ _ ?_
              clear hw
              exact ⟨_, _, _, _, _, _, _, _, _, _, _, _, _, _, rfl, (I0), (fun h => upd_mono (I1 (upd_ne h (by decide)))), (fun h => f0 (upd_ne h (by decide))), (fun h => f1 (upd_ne h (by decide))), (fun h => f2 (upd_ne h (by decide))), (fun h => f3 (upd_ne h (by decide))), (fun h => f4 (upd_ne h (by decide))), (fun h => f5 (upd_ne h (by decide))), (fun _ => rfl), (fun h => f7 (upd_ne h (by decide))), (fun h => by
                  obtain ⟨W', e1, e2, e3⟩ := f8 (upd_ne h (by decide))
                  exact ⟨W', e1, e2, fun h9 => e3 (by rw [upd_other (by decide)] at h9; exact h9)⟩), (fun h => f9 (upd_ne h (by decide))), (fun h => f10 (upd_ne h (by decide))), (fun h => ⟨upd_mono (f11 (upd_ne h (by decide))).1, (f11 (upd_ne h (by decide))).2⟩), (fun h => f12 (upd_ne h (by decide))), (fun h => f13 (upd_ne h (by decide)))⟩
            · obtain rfl := Option.some.inj ho
              have g4 := f4 (hd ⟨4, .data⟩ (by simp) rfl)
              have g6 := f6 (hd ⟨6, .data⟩ (by simp) rfl)
              subst g4
              subst g6
              refine wpOp_step rfl (fun K' hK => ?_)
              go_simp
              refine hK _ _ ?_
              exact ⟨_, _, _, _, _, _, _, _, _, _, _, _, _, _, rfl, (I0), (fun h => upd_mono (I1 (upd_ne h (by decide)))), (fun h => f0 (upd_ne h (by decide))), (fun h => f1 (upd_ne h (by decide))), (fun h => f2 (upd_ne h (by decide))), (fun h => f3 (upd_ne h (by decide))), (fun h => f4 (upd_ne h (by decide))), (fun h => f5 (upd_ne h (by decide))), (fun h => f6 (upd_ne h (by decide))), (fun _ => rfl), (fun h => by
                  obtain ⟨W', e1, e2, e3⟩ := f8 (upd_ne h (by decide))
                  exact ⟨W', e1, e2, fun h9 => e3 (by rw [upd_other (by decide)] at h9; exact h9)⟩), (fun h => f9 (upd_ne h (by decide))), (fun h => f10 (upd_ne h (by decide))), (fun h => ⟨upd_mono (f11 (upd_ne h (by decide))).1, (f11 (upd_ne h (by decide))).2⟩), (fun h => f12 (upd_ne h (by decide))), (fun h => f13 (upd_ne h (by decide)))⟩
            · obtain rfl := Option.some.inj ho
              have g2 := f2 (hd ⟨2, .data⟩ (by simp) rfl)
              have g3 := f3 (hd ⟨3, .data⟩ (by simp) rfl)
              have g7 := f7 (hd ⟨7, .data⟩ (by simp) rfl)
              subst g2
              subst g3
              subst g7
              have h9 : L 9 = false := by
                cases hh : L 9
                · rfl
                · exact absurd ((I1 hh).symm.trans hL) (by decide)
              refine wpOp_step rfl (fun K' hK => ?_)
              go_simp
              refine hK _ _ ?_
              exact ⟨_, _, _, _, _, _, _, _, _, _, _, _, _, _, rfl, (I0.alloc I0.size _), (fun _ => upd_self), (fun h => f0 (upd_ne h (by decide))), (fun h => f1 (upd_ne h (by decide))), (fun h => f2 (upd_ne h (by decide))), (fun h => f3 (upd_ne h (by decide))), (fun h => f4 (upd_ne h (by decide))), (fun h => f5 (upd_ne h (by decide))), (fun h => f6 (upd_ne h (by decide))), (fun h => f7 (upd_ne h (by decide))), (fun _ => ⟨ww, rfl, I0, fun _ => rfl⟩), (fun h => absurd ((upd_ne h (by decide)).symm.trans h9) (by decide)), (fun h => f10 (upd_ne h (by decide))), (fun h => ⟨upd_mono (f11 (upd_ne h (by decide))).1, (f11 (upd_ne h (by decide))).2⟩), (fun h => f12 (upd_ne h (by decide))), (fun h => f13 (upd_ne h (by decide)))⟩
            · obtain rfl := Option.some.inj ho
              have g8 := f8 (hd ⟨8, .data⟩ (by simp) rfl)
              obtain ⟨W', rfl, e2, e3⟩ := g8
              have e4 := e3 hL
              subst e4
              refine wpOp_step rfl (fun K' hK => ?_)
              go_simp
              refine (concat3Y W' _ (some ⟨g, o, none⟩) Ap (some ⟨g, o + (b + 1) * 3, none⟩) b np ((n - (b + 1))) c cp ((c - (b + 1))) (xs.take b) Xp (xs.drop (b + 1)) (((HBS.out.up e2).take (by omega))) (HPR.out.up e2) (HTL.out W' e2) (by omega)).mono ?_
              rintro e w' ⟨v9, rfl, o9, b9⟩
              refine hK _ _ ?_
              exact ⟨_, _, _, _, _, _, _, _, _, _, _, _, _, _, rfl, (e2.trans (b9.mono e2.size)), (fun _ => upd_mono (hd ⟨8, .data⟩ (by simp) rfl)), (fun h => f0 (upd_ne h (by decide))), (fun h => f1 (upd_ne h (by decide))), (fun h => f2 (upd_ne h (by decide))), (fun h => f3 (upd_ne h (by decide))), (fun h => f4 (upd_ne h (by decide))), (fun h => f5 (upd_ne h (by decide))), (fun h => f6 (upd_ne h (by decide))), (fun h => f7 (upd_ne h (by decide))), (fun _ => ⟨W', rfl, e2, fun h => absurd (upd_self.symm.trans h) (by decide)⟩), (fun _ => o9.base e2.size), (fun h => f10 (upd_ne h (by decide))), (fun h => absurd ((f11 (upd_ne h (by decide))).1.symm.trans hL) (by decide)), (fun h => f12 (upd_ne h (by decide))), (fun h => f13 (upd_ne h (by decide)))⟩
            · obtain rfl := Option.some.inj ho
              refine wpOp_step rfl (fun K' hK => ?_)
              go_simp
              refine hK _ _ ?_
              exact ⟨_, _, _, _, _, _, _, _, _, _, _, _, _, _, rfl, (I0), (fun h => upd_mono (I1 (upd_ne h (by decide)))), (fun h => f0 (upd_ne h (by decide))), (fun h => f1 (upd_ne h (by decide))), (fun h => f2 (upd_ne h (by decide))), (fun h => f3 (upd_ne h (by decide))), (fun h => f4 (upd_ne h (by decide))), (fun h => f5 (upd_ne h (by decide))), (fun h => f6 (upd_ne h (by decide))), (fun h => f7 (upd_ne h (by decide))), (fun h => by
                  obtain ⟨W', e1, e2, e3⟩ := f8 (upd_ne h (by decide))
                  exact ⟨W', e1, e2, fun h9 => e3 (by rw [upd_other (by decide)] at h9; exact h9)⟩), (fun h => f9 (upd_ne h (by decide))), (fun _ => rfl), (fun h => ⟨upd_mono (f11 (upd_ne h (by decide))).1, (f11 (upd_ne h (by decide))).2⟩), (fun h => f12 (upd_ne h (by decide))), (fun h => f13 (upd_ne h (by decide)))⟩
            · obtain rfl := Option.some.inj ho
              have g9 := f9 (hd ⟨9, .data⟩ (by simp) rfl)
              refine wpOp_step rfl (fun K' hK => ?_)
              go_simp
              refine hK _ _ ?_
              exact ⟨_, _, _, _, _, _, _, _, _, _, _, _, _, _, rfl, (I0), (fun h => upd_mono (I1 (upd_ne h (by decide)))), (fun h => f0 (upd_ne h (by decide))), (fun h => f1 (upd_ne h (by decide))), (fun h => f2 (upd_ne h (by decide))), (fun h => f3 (upd_ne h (by decide))), (fun h => f4 (upd_ne h (by decide))), (fun h => f5 (upd_ne h (by decide))), (fun h => f6 (upd_ne h (by decide))), (fun h => f7 (upd_ne h (by decide))), (fun h => by
                  obtain ⟨W', e1, e2, e3⟩ := f8 (upd_ne h (by decide))
                  exact ⟨W', e1, e2, fun h9 => e3 (by rw [upd_other (by decide)] at h9; exact h9)⟩), (fun h => f9 (upd_ne h (by decide))), (fun h => f10 (upd_ne h (by decide))), (fun _ => ⟨upd_mono (hd ⟨9, .data⟩ (by simp) rfl), rfl⟩), (fun h => f12 (upd_ne h (by decide))), (fun h => f13 (upd_ne h (by decide)))⟩
            · obtain rfl := Option.some.inj ho
              have g10 := f10 (hd ⟨10, .data⟩ (by simp) rfl)
              subst g10
              refine wpOp_step rfl (fun K' hK => ?_)
              go_simp
              refine hK _ _ ?_
              exact ⟨_, _, _, _, _, _, _, _, _, _, _, _, _, _, rfl, (I0), (fun h => upd_mono (I1 (upd_ne h (by decide)))), (fun h => f0 (upd_ne h (by decide))), (fun h => f1 (upd_ne h (by decide))), (fun h => f2 (upd_ne h (by decide))), (fun h => f3 (upd_ne h (by decide))), (fun h => f4 (upd_ne h (by decide))), (fun h => f5 (upd_ne h (by decide))), (fun h => f6 (upd_ne h (by decide))), (fun h => f7 (upd_ne h (by decide))), (fun h => by
                  obtain ⟨W', e1, e2, e3⟩ := f8 (upd_ne h (by decide))
                  exact ⟨W', e1, e2, fun h9 => e3 (by rw [upd_other (by decide)] at h9; exact h9)⟩), (fun h => f9 (upd_ne h (by decide))), (fun h => f10 (upd_ne h (by decide))), (fun h => ⟨upd_mono (f11 (upd_ne h (by decide))).1, (f11 (upd_ne h (by decide))).2⟩), (fun _ => rfl), (fun h => f13 (upd_ne h (by decide)))⟩
            · obtain rfl := Option.some.inj ho
              refine wpOp_step rfl (fun K' hK => ?_)
              go_simp
              refine hK _ _ ?_
              exact ⟨_, _, _, _, _, _, _, _, _, _, _, _, _, _, rfl, (I0), (fun h => upd_mono (I1 (upd_ne h (by decide)))), (fun h => f0 (upd_ne h (by decide))), (fun h => f1 (upd_ne h (by decide))), (fun h => f2 (upd_ne h (by decide))), (fun h => f3 (upd_ne h (by decide))), (fun h => f4 (upd_ne h (by decide))), (fun h => f5 (upd_ne h (by decide))), (fun h => f6 (upd_ne h (by decide))), (fun h => f7 (upd_ne h (by decide))), (fun h => by
                  obtain ⟨W', e1, e2, e3⟩ := f8 (upd_ne h (by decide))
                  exact ⟨W', e1, e2, fun h9 => e3 (by rw [upd_other (by decide)] at h9; exact h9)⟩), (fun h => f9 (upd_ne h (by decide))), (fun h => f10 (upd_ne h (by decide))), (fun h => ⟨upd_mono (f11 (upd_ne h (by decide))).1, (f11 (upd_ne h (by decide))).2⟩), (fun h => f12 (upd_ne h (by decide))), (fun _ => rfl)⟩
          case hdone =>
            rintro L a ww hall ⟨t6, t7, t8, t40, t41, t42, t43, t44, t45, t46, t47, t48, t49, t50, rfl, I0, I1, f0, f1, f2, f3, f4, f5, f6, f7, f8, f9, f10, f11, f12, f13⟩
            have e0 := f0 (hall 0 (by decide))
            have e1 := f1 (hall 1 (by decide))
            have e2 := f2 (hall 2 (by decide))
            have e3 := f3 (hall 3 (by decide))
            have e4 := f4 (hall 4 (by decide))
            have e5' := f5 (hall 5 (by decide))
            have e6 := f6 (hall 6 (by decide))
            have e7 := f7 (hall 7 (by decide))
            have e8 := f8 (hall 8 (by decide))
            have e9 := f9 (hall 9 (by decide))
            have e10 := f10 (hall 10 (by decide))
            have e11 := f11 (hall 11 (by decide))
            have e12 := f12 (hall 12 (by decide))
            have e13 := f13 (hall 13 (by decide))
            clear f0 f1 f2 f3 f4 f5 f6 f7 f8 f9 f10 f11 f12 f13
            obtain ⟨_, rfl⟩ := e11
            subst e12 e13
            clear e0 e1 e2 e3 e4 e5' e6 e7 e8 e10
            go_wp2_with fail
            go_ret3
            exact GaveY3.of (e9.base bW0.size) (bW0.trans (I0.mono bW0.size)) (by rw [HTK.out]; skip) HST.out.symm HOK.out.symm
end Go.Proofs.Ythihaclhlmpioaa
