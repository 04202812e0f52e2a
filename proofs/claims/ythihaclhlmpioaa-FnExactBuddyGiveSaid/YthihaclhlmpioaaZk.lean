/- What BuddyGive of the program returns: for every slice of buddies and all numbers. -/
import Derived.Test.YthihaclhlmpioaaBud7
import Derived.Test.YthihaclhlmpioaaZj
import Derived.Test.YthihaclhlmpioaaZh
namespace Go.Proofs.Ythihaclhlmpioaa
open Go.RowKit

theorem GaveY2.of {w w' : World} {v : Value} {ys zs : List Bl} {ok ok' : Bool} (ho : OwnY w' w.heap.size v ys) (hb : Below w.heap.size w w') (e1 : ys = zs) (e3 : ok = ok') : GaveY2 w zs ok' (.returned (.tuple #[v, .bool ok])) w' := by
  subst e1 e3
  exact ⟨v, rfl, ho, hb⟩

set_option maxRecDepth 100000 in
set_option maxHeartbeats 8000000 in
theorem buddyGive_any (A : Option Addr) (n c : Nat) (xs : List Bl) (p a : Int) (w : World) (h : BS w w.heap.size A n xs) (hn : n ≤ 1099511627776) (hc : n ≤ c) :
    Calls Try.prog 26 #[.slice A n c, .int .i64 p, .int .i64 a] w (GaveY2 w (if Bud.validY xs p = true then Bud.giveY xs p a else []) (Bud.validY xs p && Bud.okG xs a)) := by
  have HL := Lib.hid h.1
  cases hv : Bud.validY xs p
  · have HV := Lib.hid hv
    clear hv
    go_enter Try.func26, Try.ntmps26
    go_wp2_with fail
    refine (buddiesValid_any _ _ _ xs _ _ h hn).mono ?_
    rw [HV.out]
    rintro e w1 ⟨rfl, b1⟩
    go_wp2_with fail
    go_ret2
    exact ⟨_, rfl, World.ownsRow_nil _ _ _ _, b1⟩
  · rw [if_pos rfl, Bool.true_and]
    have HV := Lib.hid hv
    have HAS := Lib.hid (Bud.asc_of_valid hv)
    have HOI := Lib.hid (Bud.okG_from hv a)
    have hl := Bud.validY_len hv
    have hn5 : n ≤ 256 := by have := h.1; omega
    have hFle : Bud.fromY xs a ≤ n := by have := Bud.fromY_le xs a; rw [h.1] at this; exact this
    clear hv hl
    go_enter Try.func26, Try.ntmps26
    go_wp2_with fail
    refine (buddiesValid_any _ _ _ xs _ _ h hn).mono ?_
    rw [HV.out]
    rintro e w1 ⟨rfl, b1⟩
    go_wp2_with fail
    refine (buddyFrom_any A n c xs a w1 (h.up b1) hn5 HAS.out).mono ?_
    rintro e w2 ⟨rfl, b2⟩
    have bb2 := b1.trans (b2.mono b1.size)
    clear b1 b2
    obtain ⟨F, hF⟩ : ∃ F, Bud.fromY xs a = F := ⟨_, rfl⟩
    rw [hF] at HOI hFle ⊢
    have HF := Lib.hid hF
    clear hF
    by_cases hFn : F < n
    · obtain ⟨g, o, x, rfl, hg, hx, ⟨i1, i2⟩, ⟨i3, i4⟩, c1, c2, c3⟩ := (h.below bb2).at_ hFn
      have HX := Lib.hid hx
      have hne : ((F : Int) == (n : Int)) = false := by rw [beq_eq_false_iff_ne]; omega
      have hFn' : (F : Int) < n := by omega
      clear hx
      by_cases hok : x.s = a ∧ x.u = true
      · have HOK := Lib.hid (show Bud.okG xs a = true from HOI.out.2 ⟨x, HX.out, hok⟩)
        obtain ⟨cc, j, e1, e2, e3, e4, e5, e6⟩ := Bud.valid_mult HV.out HX.out
        have hxe : x = ⟨cc, j, true⟩ := by
          obtain ⟨xs', xz, xu⟩ := x
          simp only at e1 e2 hok
          rw [e1, e2, hok.2]
        obtain rfl : a = cc := by rw [← e1]; exact hok.1.symm
        subst hxe
        simp only at c1 c2 c3
        obtain ⟨s', j', k1, _, k2, k3, k4⟩ := Bud.prog_give HV.out HX.out
        have hp2 := Nat.two_pow_pos j
        have hp2' := Nat.two_pow_pos j'
        have hpw := Bud.two_pow_le k4
        have hc256 : cc < 256 := by omega
        have hs256 : s' < 256 := by omega
        have HJ := Lib.hid k1
        have HG := Lib.hid k2
        clear hok k1 k2 e1 e2 e3 e4 e6 i1 i2 i3 i4
        have hcc : ((cc : Int) != (cc : Int)) = false := by simp
        go_wp2_with fail
        obtain ⟨W0, hW0⟩ : ∃ W0, W0 = w2.drew := ⟨_, rfl⟩
        have bW0 : Below w.heap.size w W0 := by rw [hW0]; exact bb2.drew
        have h0W : Below W0.heap.size W0 w2.drew := by rw [hW0]; exact Below.refl _ _
        have hgW : g < W0.heap.size := Nat.lt_of_lt_of_le hg bW0.size
        have d1 : W0.cell? ⟨g, o + F * 3, none⟩ = some (.int .i64 cc) := by rw [hW0]; exact c1
        have d2 : W0.cell? ⟨g, o + F * 3 + 1, none⟩ = some (.int .i64 j) := by rw [hW0]; exact c2
        have d3 : W0.cell? ⟨g, o + F * 3 + 2, none⟩ = some (.bool true) := by rw [hW0]; exact c3
        have HC := Lib.hid (fun w' (hw' : Below W0.heap.size W0 w') => (show w'.cell? ⟨g, o + F * 3, none⟩ = some (.int .i64 cc) ∧ w'.cell? ⟨g, o + F * 3 + 1, none⟩ = some (.int .i64 j) ∧ w'.cell? ⟨g, o + F * 3 + 2, none⟩ = some (.bool true) from
          ⟨(hw'.cell (p := ⟨g, o + F * 3, none⟩) hgW).trans d1, (hw'.cell (p := ⟨g, o + F * 3 + 1, none⟩) hgW).trans d2, (hw'.cell (p := ⟨g, o + F * 3 + 2, none⟩) hgW).trans d3⟩))
        have HBS := Lib.hid (h.up bW0)
        clear hW0 c1 c2 c3 d1 d2 d3
        have HFA := Lib.hid (fun q => Bud.frees_asc HAS.out q)
        have HFR := Lib.hid (fun q v hv => (Bud.frees_range (j := q) (v := v) HV.out hv).2.1)
        refine wp_region_inv (by kernel_rfl) (by kernel_rfl) (fun L a ww => ∃ t9 t42 t43 t44 t45 t46 t47 t48 : Value, a = { tmps := #[.slice (some ⟨g, o, none⟩) n c, .int .i64 p, .int .i64 cc, undef, undef, undef, .slice none 0 0, .bool false, .int .i64 F, t9, undef, undef, .slice (some ⟨g, o, none⟩) n c, .int .i64 p, .bool true, .bool false, .slice (some ⟨g, o, none⟩) n c, .int .i64 cc, .int .i64 F, .int .i64 F, .slice (some ⟨g, o, none⟩) n c, .int .i64 n, .bool false, .bool false, .slice (some ⟨g, o, none⟩) n c, .int .i64 F, .pointer (some ⟨g, o + F * 3, none⟩), .pointer (some ⟨g, o + F * 3, none⟩), .int .i64 cc, .int .i64 cc, .bool false, .bool false, .bool false, .slice (some ⟨g, o, none⟩) n c, .int .i64 F, .pointer (some ⟨g, o + F * 3, none⟩), .pointer (some ⟨g, o + F * 3 + 2, none⟩), .bool true, .bool false, .bool false, undef, undef, t42, t43, t44, t45, t46, t47, t48, undef, undef, undef, undef, undef, undef, undef, undef, undef, undef, undef, undef, undef, undef, undef, undef, undef, undef, undef, undef, undef, undef], defers := [] } ∧ (Below W0.heap.size W0 ww) ∧ (L 0 = true → t42 = .slice (some ⟨g, o, none⟩) n c) ∧ (L 1 = true → ∃ A' N C, t43 = .agg (flv A' N C) ∧ (L 6 = false → (∀ q, q < 9 → IS ww ww.heap.size (A' q) (N q) (Bud.freesTo xs xs.length q)) ∧ (∀ q, q < 9 → N q ≤ 1099511627776))) ∧ (L 2 = true → t44 = .slice (some ⟨g, o, none⟩) n c) ∧ (L 3 = true → t45 = .int .i64 F) ∧ (L 4 = true → t46 = .pointer (some ⟨g, o + F * 3, none⟩)) ∧ (L 5 = true → t47 = .agg #[.int .i64 cc, .int .i64 j, .bool true]) ∧ (L 6 = true → t48 = .agg #[.int .i64 s', .int .i64 j', .bool false]) ∧ (L 7 = true → ∃ ga, t9 = .pointer (some ⟨ga, 0, none⟩) ∧ W0.heap.size ≤ ga ∧ (L 8 = false → Rw ww ga 40 #[.int .i64 0, .int .i64 0, .bool false])) ∧ (L 8 = true → ∃ ga, L 7 = true ∧ t9 = .pointer (some ⟨ga, 0, none⟩) ∧ W0.heap.size ≤ ga ∧ Rw ww ga 40 #[.int .i64 s', .int .i64 j', .bool false])) ?h0 ?hstep ?hdone
        case h0 => exact ⟨_, _, _, _, _, _, _, _, rfl, h0W, (fun h => absurd h Bool.false_ne_true), (fun h => absurd h Bool.false_ne_true), (fun h => absurd h Bool.false_ne_true), (fun h => absurd h Bool.false_ne_true), (fun h => absurd h Bool.false_ne_true), (fun h => absurd h Bool.false_ne_true), (fun h => absurd h Bool.false_ne_true), (fun h => absurd h Bool.false_ne_true), (fun h => absurd h Bool.false_ne_true)⟩
        case hstep =>
          rintro L a ww i o ho hL hd ⟨t9, t42, t43, t44, t45, t46, t47, t48, rfl, I0, f0, f1, f2, f3, f4, f5, f6, f7, f8⟩
          have hi : i < 9 := (Array.getElem?_eq_some_iff.1 ho).1
          obtain rfl | rfl | rfl | rfl | rfl | rfl | rfl | rfl | rfl : i = 0 ∨ i = 1 ∨ i = 2 ∨ i = 3 ∨ i = 4 ∨ i = 5 ∨ i = 6 ∨ i = 7 ∨ i = 8 := by omega
          · obtain rfl := Option.some.inj ho
            refine wpOp_step rfl (fun K' hK => ?_)
            go_simp
            refine hK _ _ ?_
            exact ⟨_, _, _, _, _, _, _, _, rfl, (I0), (fun _ => rfl), (fun h => by
                obtain ⟨A', N, C, e1, e2⟩ := f1 (upd_ne h (by decide))
                exact ⟨A', N, C, e1, fun h6 => e2 (by rw [upd_other (by decide)] at h6; exact h6)⟩), (fun h => f2 (upd_ne h (by decide))), (fun h => f3 (upd_ne h (by decide))), (fun h => f4 (upd_ne h (by decide))), (fun h => f5 (upd_ne h (by decide))), (fun h => f6 (upd_ne h (by decide))), (fun h => by
                obtain ⟨ga, e1, e2, e3⟩ := f7 (upd_ne h (by decide))
                exact ⟨ga, e1, e2, fun h8 => e3 (by rw [upd_other (by decide)] at h8; exact h8)⟩), (fun h => by
                obtain ⟨ga, e0, e1, e2⟩ := f8 (upd_ne h (by decide))
                exact ⟨ga, upd_mono e0, e1, e2⟩)⟩
          · obtain rfl := Option.some.inj ho
            have g0 := f0 (hd ⟨0, .data⟩ (by simp) rfl)
            subst g0
            refine wpOp_step rfl (fun K' hK => ?_)
            go_simp
            refine (freeByOrders_any (some ⟨g, o, none⟩) n c xs p ww (HBS.out.up I0) HV.out).mono ?_
            rintro e w' ⟨A', N, C, rfl, fl1, b1⟩
            rw [← HL.out] at fl1
            have hfl := fl_all HV.out fl1
            refine hK _ _ ?_
            exact ⟨_, _, _, _, _, _, _, _, rfl, (I0.trans (b1.mono I0.size)), (fun h => f0 (upd_ne h (by decide))), (fun _ => ⟨A', N, C, rfl, fun _ => hfl⟩), (fun h => f2 (upd_ne h (by decide))), (fun h => f3 (upd_ne h (by decide))), (fun h => f4 (upd_ne h (by decide))), (fun h => f5 (upd_ne h (by decide))), (fun h => f6 (upd_ne h (by decide))), (fun h => by
                obtain ⟨ga, e1, e2, e3⟩ := f7 (upd_ne h (by decide))
                exact ⟨ga, e1, e2, fun h8 => (e3 (by rw [upd_other (by decide)] at h8; exact h8)).keep b1 (e3 (by rw [upd_other (by decide)] at h8; exact h8)).lt⟩), (fun h => by
                obtain ⟨ga, e0, e1, e2, e3⟩ := f8 (upd_ne h (by decide))
                exact ⟨ga, upd_mono e0, e1, e2, e3.keep b1 e3.lt⟩)⟩
          · obtain rfl := Option.some.inj ho
            refine wpOp_step rfl (fun K' hK => ?_)
            go_simp
            refine hK _ _ ?_
            exact ⟨_, _, _, _, _, _, _, _, rfl, (I0), (fun h => f0 (upd_ne h (by decide))), (fun h => by
                obtain ⟨A', N, C, e1, e2⟩ := f1 (upd_ne h (by decide))
                exact ⟨A', N, C, e1, fun h6 => e2 (by rw [upd_other (by decide)] at h6; exact h6)⟩), (fun _ => rfl), (fun h => f3 (upd_ne h (by decide))), (fun h => f4 (upd_ne h (by decide))), (fun h => f5 (upd_ne h (by decide))), (fun h => f6 (upd_ne h (by decide))), (fun h => by
                obtain ⟨ga, e1, e2, e3⟩ := f7 (upd_ne h (by decide))
                exact ⟨ga, e1, e2, fun h8 => e3 (by rw [upd_other (by decide)] at h8; exact h8)⟩), (fun h => by
                obtain ⟨ga, e0, e1, e2⟩ := f8 (upd_ne h (by decide))
                exact ⟨ga, upd_mono e0, e1, e2⟩)⟩
          · obtain rfl := Option.some.inj ho
            refine wpOp_step rfl (fun K' hK => ?_)
            go_simp
            refine hK _ _ ?_
            exact ⟨_, _, _, _, _, _, _, _, rfl, (I0), (fun h => f0 (upd_ne h (by decide))), (fun h => by
                obtain ⟨A', N, C, e1, e2⟩ := f1 (upd_ne h (by decide))
                exact ⟨A', N, C, e1, fun h6 => e2 (by rw [upd_other (by decide)] at h6; exact h6)⟩), (fun h => f2 (upd_ne h (by decide))), (fun _ => rfl), (fun h => f4 (upd_ne h (by decide))), (fun h => f5 (upd_ne h (by decide))), (fun h => f6 (upd_ne h (by decide))), (fun h => by
                obtain ⟨ga, e1, e2, e3⟩ := f7 (upd_ne h (by decide))
                exact ⟨ga, e1, e2, fun h8 => e3 (by rw [upd_other (by decide)] at h8; exact h8)⟩), (fun h => by
                obtain ⟨ga, e0, e1, e2⟩ := f8 (upd_ne h (by decide))
                exact ⟨ga, upd_mono e0, e1, e2⟩)⟩
          · obtain rfl := Option.some.inj ho
            have g2 := f2 (hd ⟨2, .data⟩ (by simp) rfl)
            have g3 := f3 (hd ⟨3, .data⟩ (by simp) rfl)
            subst g2
            subst g3
            refine wpOp_step rfl (fun K' hK => ?_)
            go_simp
            refine hK _ _ ?_
            exact ⟨_, _, _, _, _, _, _, _, rfl, (I0), (fun h => f0 (upd_ne h (by decide))), (fun h => by
                obtain ⟨A', N, C, e1, e2⟩ := f1 (upd_ne h (by decide))
                exact ⟨A', N, C, e1, fun h6 => e2 (by rw [upd_other (by decide)] at h6; exact h6)⟩), (fun h => f2 (upd_ne h (by decide))), (fun h => f3 (upd_ne h (by decide))), (fun _ => by simp), (fun h => f5 (upd_ne h (by decide))), (fun h => f6 (upd_ne h (by decide))), (fun h => by
                obtain ⟨ga, e1, e2, e3⟩ := f7 (upd_ne h (by decide))
                exact ⟨ga, e1, e2, fun h8 => e3 (by rw [upd_other (by decide)] at h8; exact h8)⟩), (fun h => by
                obtain ⟨ga, e0, e1, e2⟩ := f8 (upd_ne h (by decide))
                exact ⟨ga, upd_mono e0, e1, e2⟩)⟩
          · obtain rfl := Option.some.inj ho
            have g4 := f4 (hd ⟨4, .data⟩ (by simp) rfl)
            subst g4
            obtain ⟨k0, k1, k2⟩ := HC.out ww I0
            refine wpOp_step rfl (fun K' hK => ?_)
            go_simp
            refine hK _ _ ?_
            exact ⟨_, _, _, _, _, _, _, _, rfl, (I0), (fun h => f0 (upd_ne h (by decide))), (fun h => by
                obtain ⟨A', N, C, e1, e2⟩ := f1 (upd_ne h (by decide))
                exact ⟨A', N, C, e1, fun h6 => e2 (by rw [upd_other (by decide)] at h6; exact h6)⟩), (fun h => f2 (upd_ne h (by decide))), (fun h => f3 (upd_ne h (by decide))), (fun h => f4 (upd_ne h (by decide))), (fun _ => rfl), (fun h => f6 (upd_ne h (by decide))), (fun h => by
                obtain ⟨ga, e1, e2, e3⟩ := f7 (upd_ne h (by decide))
                exact ⟨ga, e1, e2, fun h8 => e3 (by rw [upd_other (by decide)] at h8; exact h8)⟩), (fun h => by
                obtain ⟨ga, e0, e1, e2⟩ := f8 (upd_ne h (by decide))
                exact ⟨ga, upd_mono e0, e1, e2⟩)⟩
          · obtain rfl := Option.some.inj ho
            have g1 := f1 (hd ⟨1, .data⟩ (by simp) rfl)
            have g5 := f5 (hd ⟨5, .data⟩ (by simp) rfl)
            subst g5
            obtain ⟨A', N, C, rfl, e1⟩ := g1
            obtain ⟨hI, hN⟩ := e1 hL
            clear e1
            refine wpOp_step rfl (fun K' hK => ?_)
            go_simp
            refine (joined_any A' N C _ cc j true ww hI hN HFA.out hc256 e5 HFR.out).mono ?_
            rw [HJ.out]
            rintro e w' ⟨rfl, b6⟩
            refine hK _ _ ?_
            exact ⟨_, _, _, _, _, _, _, _, rfl, (I0.trans (b6.mono I0.size)), (fun h => f0 (upd_ne h (by decide))), (fun h => by
                exact ⟨A', N, C, rfl, fun h6 => absurd (upd_self.symm.trans h6) (by decide)⟩), (fun h => f2 (upd_ne h (by decide))), (fun h => f3 (upd_ne h (by decide))), (fun h => f4 (upd_ne h (by decide))), (fun h => f5 (upd_ne h (by decide))), (fun _ => rfl), (fun h => by
                obtain ⟨ga, e1, e2, e3⟩ := f7 (upd_ne h (by decide))
                exact ⟨ga, e1, e2, fun h8 => (e3 (by rw [upd_other (by decide)] at h8; exact h8)).keep b6 (e3 (by rw [upd_other (by decide)] at h8; exact h8)).lt⟩), (fun h => by
                obtain ⟨ga, e0, e1, e2, e3⟩ := f8 (upd_ne h (by decide))
                exact ⟨ga, upd_mono e0, e1, e2, e3.keep b6 e3.lt⟩)⟩
          · obtain rfl := Option.some.inj ho
            refine wpOp_step rfl (fun K' hK => ?_)
            go_simp
            refine hK _ _ ?_
            exact ⟨_, _, _, _, _, _, _, _, rfl, (I0.alloc I0.size _), (fun h => f0 (upd_ne h (by decide))), (fun h => by
                obtain ⟨A', N, C, e1, e2⟩ := f1 (upd_ne h (by decide))
                exact ⟨A', N, C, e1, fun h6 => ⟨fun q hq => ((e2 (by rw [upd_other (by decide)] at h6; exact h6)).1 q hq).up ((Below.refl _ _).alloc (Nat.le_refl _) _), (e2 (by rw [upd_other (by decide)] at h6; exact h6)).2⟩⟩), (fun h => f2 (upd_ne h (by decide))), (fun h => f3 (upd_ne h (by decide))), (fun h => f4 (upd_ne h (by decide))), (fun h => f5 (upd_ne h (by decide))), (fun h => f6 (upd_ne h (by decide))), (fun _ => ⟨ww.heap.size, rfl, I0.size, fun _ => Rw.new ww _ _⟩), (fun h => by
                obtain ⟨ga, e0, _⟩ := f8 (upd_ne h (by decide))
                exact absurd (e0.symm.trans hL) (by decide))⟩
          · obtain rfl := Option.some.inj ho
            have g7 := f7 (hd ⟨7, .data⟩ (by simp) rfl)
            have g6 := f6 (hd ⟨6, .data⟩ (by simp) rfl)
            subst g6
            obtain ⟨ga, rfl, hga, e7⟩ := g7
            have R7 := e7 hL
            have q0 := R7.cell 0
            have q1 := R7.cell 1
            have q2 := R7.cell 2
            have z0 := R7.frozen 0
            have z1 := R7.frozen 1
            have z2 := R7.frozen 2
            simp at q0 q1 q2
            have h6 := hd ⟨6, .data⟩ (by simp) rfl
            have h7 := hd ⟨7, .data⟩ (by simp) rfl
            have HR7 := Lib.hid R7
            clear R7 e7
            refine wpOp_step rfl (fun K' hK => ?_)
            go_simp
            refine hK _ _ ?_
            exact ⟨_, _, _, _, _, _, _, _, rfl, (((I0.setCell hga _).setCell hga _).setCell hga _), (fun h => f0 (upd_ne h (by decide))), (fun h => by
                obtain ⟨A', N, C, e1, _⟩ := f1 (upd_ne h (by decide))
                exact ⟨A', N, C, e1, fun h6' => absurd ((upd_other (by decide)).symm.trans h6') (by rw [h6]; decide)⟩), (fun h => f2 (upd_ne h (by decide))), (fun h => f3 (upd_ne h (by decide))), (fun h => f4 (upd_ne h (by decide))), (fun h => f5 (upd_ne h (by decide))), (fun h => f6 (upd_ne h (by decide))), (fun _ => ⟨ga, rfl, hga, fun h8 => absurd (upd_self.symm.trans h8) (by decide)⟩), (fun _ => ⟨ga, upd_mono h7, rfl, hga, by
                have := ((HR7.out.put 0 (.int .i64 s')).put 1 (.int .i64 j')).put 2 (.bool false)
                simpa using this⟩)⟩
        case hdone =>
          rintro L a ww hall ⟨t9, t42, t43, t44, t45, t46, t47, t48, rfl, I0, f0, f1, f2, f3, f4, f5, f6, f7, f8⟩
          have e0 := f0 (hall 0 (by decide))
          have e1 := f1 (hall 1 (by decide))
          have e2 := f2 (hall 2 (by decide))
          have e3 := f3 (hall 3 (by decide))
          have e4 := f4 (hall 4 (by decide))
          have e5' := f5 (hall 5 (by decide))
          have e6 := f6 (hall 6 (by decide))
          have e7 := f7 (hall 7 (by decide))
          have e8 := f8 (hall 8 (by decide))
          clear f0 f1 f2 f3 f4 f5 f6 f7 f8
          obtain ⟨A', N, C, rfl, _⟩ := e1
          obtain ⟨ga, _, rfl, hga, hrow⟩ := e8
          subst e0 e2 e3 e4 e5' e6
          clear e7
          have bw := bW0.trans (I0.mono bW0.size)
          have q0 := hrow.cell 0
          have q1 := hrow.cell 1
          have q2 := hrow.cell 2
          simp at q0 q1 q2
          have hga2 := hrow.lt
          go_wp2_with fail
          refine (buddyFrom_any _ n c xs s' ww (h.up bw) hn5 HAS.out).mono ?_
          obtain ⟨K1, hK1⟩ : ∃ K1, Bud.fromY xs s' = K1 := ⟨_, rfl⟩
          rw [hK1]
          rintro e w5 ⟨rfl, b5⟩
          have bb5 := bw.trans (b5.mono bw.size)
          have hr5 := hrow.keep b5 hga2
          have hga5 := hr5.lt
          have HR5 := Lib.hid hr5
          have r0 := hr5.cell 0
          have r1 := hr5.cell 1
          have r2 := hr5.cell 2
          simp at r0 r1 r2
          clear q0 q1 q2 hrow hr5
          obtain ⟨K2, hK2⟩ : ∃ K2, Bud.fromY xs ((s' + 2 ^ j' : Nat) : Int) = K2 := ⟨_, rfl⟩
          have hK1n : K1 ≤ n := by have := Bud.fromY_le xs s'; rw [HL.out, hK1] at this; exact this
          have hK2n : K2 ≤ n := by have := Bud.fromY_le xs ((s' + 2 ^ j' : Nat) : Int); rw [HL.out, hK2] at this; exact this
          have HPG := Lib.hid (show Bud.giveY xs p cc = xs.take K1 ++ [⟨s', j', false⟩] ++ xs.drop K2 by rw [HG.out, Bud.progG, hK1, hK2])
          have tb : (2 : Int) ^ j' ≤ 256 := by rw [pow_int]; omega
          have tc : 1 ≤ (2 : Int) ^ j' := by rw [pow_int]; omega
          have hsum : ((s' + 2 ^ j' : Nat) : Int) = (s' : Int) + 2 ^ j' := by rw [pow_int]; simp
          have hw3 : IntKind.i64.wrap ((s' : Int) + 2 ^ j') = (s' : Int) + 2 ^ j' := IntWalk.i64_in _ (by omega)
          have CB := Lib.hid (fun w' (hw' : InW w5 w') => (buddyWords_any j' w' k4).mono (R' := fun e w'' => e = .returned (.int .i64 (2 ^ j')) ∧ InW w5 w'') fun e w'' hh => ⟨hh.1, hh.2 ▸ hw'⟩)
          have CF := Lib.hid (fun w' (hw' : InW w5 w') => (buddyFrom_any (some ⟨g, o, none⟩) n c xs ((s' : Int) + 2 ^ j') w' (h.up (bb5.trans ((show Below w5.heap.size w5 w' from hw').mono bb5.size))) hn5 HAS.out).mono (R' := fun e w'' => e = .returned (.int .i64 K2) ∧ InW w5 w'') fun e w'' hh => ⟨by rw [← hK2, hsum]; exact hh.1, hw'.call hh.2⟩)
          have HC5 := Lib.hid (fun w' (hw' : InW w5 w') => (show w'.cell? ⟨ga, 0, none⟩ = some (.int .i64 s') ∧ w'.cell? ⟨ga, 1, none⟩ = some (.int .i64 j') ∧ w'.cell? ⟨ga, 2, none⟩ = some (.bool false) from
            ⟨(Below.cell hw' (p := ⟨ga, 0, none⟩) hga5).trans r0, (Below.cell hw' (p := ⟨ga, 1, none⟩) hga5).trans r1, (Below.cell hw' (p := ⟨ga, 2, none⟩) hga5).trans r2⟩))
          go_wp2_with fail
          clear r0 r1 r2 hK1 hK2
          refine wp_region_quiet (C := InW w5) (by kernel_rfl) (by kernel_rfl) (show InW w5 _ from (Below.refl _ _).drew) ?_
          repeat (
            refine wpQuiet_step (fun K hK => ?_)
            go_simp
            first
              | (refine hK _ ?_
                 clear hK K)
              | ((with_reducible refine ⟨_, fun _ _ => rfl, hK _ ?_⟩)
                 clear hK K)
              | ((with_reducible refine ⟨_, CB.out, hK _ ?_⟩)
                 clear hK K)
              | ((with_reducible refine ⟨_, CF.out, hK _ ?_⟩)
                 clear hK K)
              | (refine ⟨.int .i64 s', ?_, hK _ ?_⟩
                 · intro w' hw'
                   obtain ⟨k0, k1, k2⟩ := HC5.out w' hw'
                   go_simp
                 clear hK K)
              | (refine ⟨.int .i64 j', ?_, hK _ ?_⟩
                 · intro w' hw'
                   obtain ⟨k0, k1, k2⟩ := HC5.out w' hw'
                   go_simp
                 clear hK K))
          refine wpQuiet_nil ?_
          intro w6 hw6
          have bb6 := bb5.trans ((show Below w5.heap.size w5 w6 from hw6).mono bb5.size)
          clear hw3
          go_wp2_with fail
          obtain ⟨W6, hW6⟩ : ∃ W6, W6 = w6.drew := ⟨_, rfl⟩
          have bW6 : Below w.heap.size w W6 := by rw [hW6]; exact bb6.drew
          have h6W : Below W6.heap.size W6 w6.drew := by rw [hW6]; exact Below.refl _ _
          have HBS6 := Lib.hid (h.up bW6)
          have HC6 := Lib.hid (fun w' (hw' : Below W6.heap.size W6 w') => HC5.out w' (show InW w5 w' from (show Below w5.heap.size w5 w6 from hw6).drew.trans (by rw [← hW6]; exact hw'.mono (by rw [hW6]; exact (show Below w5.heap.size w5 w6 from hw6).drew.size))))
          clear hW6
          have hai : AllI [(⟨s', j', false⟩ : Bl)] := allI_one (by omega) (by omega) (by omega) (by omega)
          have HAI := Lib.hid hai
          clear hai
          have v1 : (K1 : Int) ≤ n := by omega
          have v2 : (K1 : Int) ≤ c := by omega
          by_cases hcap : c = K2
          · have e1 : n = K2 := by omega
            have HD := Lib.hid (show xs.drop K2 = [] from List.drop_eq_nil_of_le (by rw [HL.out]; omega))
            subst e1 hcap
            have HTL := Lib.hid (fun W' (_ : Below W6.heap.size W6 W') => BS.none_ W' W'.heap.size (some (⟨g, o, none⟩ : Addr)))
            refine wp_region_inv (by kernel_rfl) (by kernel_rfl) (fun L a ww => ∃ t6 t7 t61 t62 t63 t64 t65 t66 t67 t68 t69 t70 : Value, a = { tmps := #[.slice (some ⟨g, o, none⟩) c c, .int .i64 p, .int .i64 cc, undef, undef, undef, t6, t7, .int .i64 F, .pointer (some ⟨ga, 0, none⟩), .int .i64 K1, .int .i64 c, .slice (some ⟨g, o, none⟩) c c, .int .i64 p, .bool true, .bool false, .slice (some ⟨g, o, none⟩) c c, .int .i64 cc, .int .i64 F, .int .i64 F, .slice (some ⟨g, o, none⟩) c c, .int .i64 c, .bool false, .bool false, .slice (some ⟨g, o, none⟩) c c, .int .i64 F, .pointer (some ⟨g, o + F * 3, none⟩), .pointer (some ⟨g, o + F * 3, none⟩), .int .i64 cc, .int .i64 cc, .bool false, .bool false, .bool false, .slice (some ⟨g, o, none⟩) c c, .int .i64 F, .pointer (some ⟨g, o + F * 3, none⟩), .pointer (some ⟨g, o + F * 3 + 2, none⟩), .bool true, .bool false, .bool false, undef, undef, .slice (some ⟨g, o, none⟩) c c, .agg (flv A' N C), .slice (some ⟨g, o, none⟩) c c, .int .i64 F, .pointer (some ⟨g, o + F * 3, none⟩), .agg #[.int .i64 cc, .int .i64 j, .bool true], .agg #[.int .i64 s', .int .i64 j', .bool false], .slice (some ⟨g, o, none⟩) c c, .pointer (some ⟨ga, 0, none⟩), .int .i64 s', .int .i64 K1, .slice (some ⟨g, o, none⟩) c c, .pointer (some ⟨ga, 0, none⟩), .int .i64 s', .pointer (some ⟨ga, 1, none⟩), .int .i64 j', .int .i64 (2 ^ j'), .int .i64 ((s' : Int) + 2 ^ j'), .int .i64 c, t61, t62, t63, t64, t65, t66, t67, t68, t69, t70], defers := [] } ∧ (Below W6.heap.size W6 ww) ∧ (L 9 = true → L 8 = true) ∧ (L 8 = true → L 4 = true) ∧ (L 0 = true → t61 = .slice (some ⟨g, o, none⟩) c c) ∧ (L 1 = true → t62 = .int .i64 K1) ∧ (L 2 = true → t63 = .slice (some ⟨g, o, none⟩) K1 c) ∧ (L 3 = true → t64 = .agg #[.int .i64 s', .int .i64 j', .bool false]) ∧ (L 4 = true → ∃ g4, t65 = .slice (some ⟨g4, 0, none⟩) 1 1 ∧ (L 8 = false → BS ww ww.heap.size (some ⟨g4, 0, none⟩) 1 [(⟨s', j', false⟩ : Bl)])) ∧ (L 5 = true → t66 = .slice (some ⟨g, o, none⟩) c c) ∧ (L 6 = true → t67 = .int .i64 c) ∧ (L 7 = true → t68 = .slice (some ⟨g, o, none⟩) 0 0) ∧ (L 8 = true → ∃ W' g4, t69 = .slice (some ⟨W'.heap.size, 0, none⟩) 3 3 ∧ Below W6.heap.size W6 W' ∧ BS W' W'.heap.size (some ⟨g4, 0, none⟩) 1 [(⟨s', j', false⟩ : Bl)] ∧ (L 9 = false → ww = W'.alloc (.cells #[.slice (some ⟨g, o, none⟩) K1 c, .slice (some ⟨g4, 0, none⟩) 1 1, .slice (some ⟨g, o, none⟩) 0 0] 27))) ∧ (L 9 = true → OwnY ww W6.heap.size t70 (xs.take K1 ++ [(⟨s', j', false⟩ : Bl)] ++ [])) ∧ (L 10 = true → L 9 = true ∧ t6 = t70) ∧ (L 11 = true → t7 = .bool true)) ?h0 ?hstep ?hdone
            case h0 => exact ⟨_, _, _, _, _, _, _, _, _, _, _, _, rfl, h6W, (fun h => absurd h Bool.false_ne_true), (fun h => absurd h Bool.false_ne_true), (fun h => absurd h Bool.false_ne_true), (fun h => absurd h Bool.false_ne_true), (fun h => absurd h Bool.false_ne_true), (fun h => absurd h Bool.false_ne_true), (fun h => absurd h Bool.false_ne_true), (fun h => absurd h Bool.false_ne_true), (fun h => absurd h Bool.false_ne_true), (fun h => absurd h Bool.false_ne_true), (fun h => absurd h Bool.false_ne_true), (fun h => absurd h Bool.false_ne_true), (fun h => absurd h Bool.false_ne_true), (fun h => absurd h Bool.false_ne_true)⟩
            case hstep =>
              rintro L a ww i o ho hL hd ⟨t6, t7, t61, t62, t63, t64, t65, t66, t67, t68, t69, t70, rfl, I0, I1, I2, f0, f1, f2, f3, f4, f5, f6, f7, f8, f9, f10, f11⟩
              have hi : i < 12 := (Array.getElem?_eq_some_iff.1 ho).1
              obtain rfl | rfl | rfl | rfl | rfl | rfl | rfl | rfl | rfl | rfl | rfl | rfl : i = 0 ∨ i = 1 ∨ i = 2 ∨ i = 3 ∨ i = 4 ∨ i = 5 ∨ i = 6 ∨ i = 7 ∨ i = 8 ∨ i = 9 ∨ i = 10 ∨ i = 11 := by omega
              · obtain rfl := Option.some.inj ho
                refine wpOp_step rfl (fun K' hK => ?_)
                go_simp
                refine hK _ _ ?_
                exact ⟨_, _, _, _, _, _, _, _, _, _, _, _, rfl, (I0), (fun h => upd_mono (I1 (upd_ne h (by decide)))), (fun h => upd_mono (I2 (upd_ne h (by decide)))), (fun _ => rfl), (fun h => f1 (upd_ne h (by decide))), (fun h => f2 (upd_ne h (by decide))), (fun h => f3 (upd_ne h (by decide))), (fun h => by
                    obtain ⟨g4, e1, e2⟩ := f4 (upd_ne h (by decide))
                    exact ⟨g4, e1, fun h8 => e2 (by rw [upd_other (by decide)] at h8; exact h8)⟩), (fun h => f5 (upd_ne h (by decide))), (fun h => f6 (upd_ne h (by decide))), (fun h => f7 (upd_ne h (by decide))), (fun h => by
                    obtain ⟨W', g4, e1, e2, e3, e4⟩ := f8 (upd_ne h (by decide))
                    exact ⟨W', g4, e1, e2, e3, fun h9 => e4 (by rw [upd_other (by decide)] at h9; exact h9)⟩), (fun h => f9 (upd_ne h (by decide))), (fun h => ⟨upd_mono (f10 (upd_ne h (by decide))).1, (f10 (upd_ne h (by decide))).2⟩), (fun h => f11 (upd_ne h (by decide)))⟩
              · obtain rfl := Option.some.inj ho
                refine wpOp_step rfl (fun K' hK => ?_)
                go_simp
                refine hK _ _ ?_
                exact ⟨_, _, _, _, _, _, _, _, _, _, _, _, rfl, (I0), (fun h => upd_mono (I1 (upd_ne h (by decide)))), (fun h => upd_mono (I2 (upd_ne h (by decide)))), (fun h => f0 (upd_ne h (by decide))), (fun _ => rfl), (fun h => f2 (upd_ne h (by decide))), (fun h => f3 (upd_ne h (by decide))), (fun h => by
                    obtain ⟨g4, e1, e2⟩ := f4 (upd_ne h (by decide))
                    exact ⟨g4, e1, fun h8 => e2 (by rw [upd_other (by decide)] at h8; exact h8)⟩), (fun h => f5 (upd_ne h (by decide))), (fun h => f6 (upd_ne h (by decide))), (fun h => f7 (upd_ne h (by decide))), (fun h => by
                    obtain ⟨W', g4, e1, e2, e3, e4⟩ := f8 (upd_ne h (by decide))
                    exact ⟨W', g4, e1, e2, e3, fun h9 => e4 (by rw [upd_other (by decide)] at h9; exact h9)⟩), (fun h => f9 (upd_ne h (by decide))), (fun h => ⟨upd_mono (f10 (upd_ne h (by decide))).1, (f10 (upd_ne h (by decide))).2⟩), (fun h => f11 (upd_ne h (by decide)))⟩
              · obtain rfl := Option.some.inj ho
                have g0 := f0 (hd ⟨0, .data⟩ (by simp) rfl)
                have g1 := f1 (hd ⟨1, .data⟩ (by simp) rfl)
                subst g0
                subst g1
                refine wpOp_step rfl (fun K' hK => ?_)
                go_simp
                refine hK _ _ ?_
                exact ⟨_, _, _, _, _, _, _, _, _, _, _, _, rfl, (I0), (fun h => upd_mono (I1 (upd_ne h (by decide)))), (fun h => upd_mono (I2 (upd_ne h (by decide)))), (fun h => f0 (upd_ne h (by decide))), (fun h => f1 (upd_ne h (by decide))), (fun _ => rfl), (fun h => f3 (upd_ne h (by decide))), (fun h => by
                    obtain ⟨g4, e1, e2⟩ := f4 (upd_ne h (by decide))
                    exact ⟨g4, e1, fun h8 => e2 (by rw [upd_other (by decide)] at h8; exact h8)⟩), (fun h => f5 (upd_ne h (by decide))), (fun h => f6 (upd_ne h (by decide))), (fun h => f7 (upd_ne h (by decide))), (fun h => by
                    obtain ⟨W', g4, e1, e2, e3, e4⟩ := f8 (upd_ne h (by decide))
                    exact ⟨W', g4, e1, e2, e3, fun h9 => e4 (by rw [upd_other (by decide)] at h9; exact h9)⟩), (fun h => f9 (upd_ne h (by decide))), (fun h => ⟨upd_mono (f10 (upd_ne h (by decide))).1, (f10 (upd_ne h (by decide))).2⟩), (fun h => f11 (upd_ne h (by decide)))⟩
              · obtain rfl := Option.some.inj ho
                obtain ⟨k0, k1, k2⟩ := HC6.out ww I0
                refine wpOp_step rfl (fun K' hK => ?_)
                go_simp
                refine hK _ _ ?_
                exact ⟨_, _, _, _, _, _, _, _, _, _, _, _, rfl, (I0), (fun h => upd_mono (I1 (upd_ne h (by decide)))), (fun h => upd_mono (I2 (upd_ne h (by decide)))), (fun h => f0 (upd_ne h (by decide))), (fun h => f1 (upd_ne h (by decide))), (fun h => f2 (upd_ne h (by decide))), (fun _ => rfl), (fun h => by
                    obtain ⟨g4, e1, e2⟩ := f4 (upd_ne h (by decide))
                    exact ⟨g4, e1, fun h8 => e2 (by rw [upd_other (by decide)] at h8; exact h8)⟩), (fun h => f5 (upd_ne h (by decide))), (fun h => f6 (upd_ne h (by decide))), (fun h => f7 (upd_ne h (by decide))), (fun h => by
                    obtain ⟨W', g4, e1, e2, e3, e4⟩ := f8 (upd_ne h (by decide))
                    exact ⟨W', g4, e1, e2, e3, fun h9 => e4 (by rw [upd_other (by decide)] at h9; exact h9)⟩), (fun h => f9 (upd_ne h (by decide))), (fun h => ⟨upd_mono (f10 (upd_ne h (by decide))).1, (f10 (upd_ne h (by decide))).2⟩), (fun h => f11 (upd_ne h (by decide)))⟩
              · obtain rfl := Option.some.inj ho
                have g3 := f3 (hd ⟨3, .data⟩ (by simp) rfl)
                subst g3
                have h8 : L 8 = false := by
                  cases hh : L 8
                  · rfl
                  · exact absurd ((I2 hh).symm.trans hL) (by decide)
                have h9 : L 9 = false := by
                  cases hh : L 9
                  · rfl
                  · exact absurd ((I1 hh).symm.trans h8) (by decide)
                refine wpOp_step rfl (fun K' hK => ?_)
                go_simp
                refine hK _ _ ?_
                exact ⟨_, _, _, _, _, _, _, _, _, _, _, _, rfl, (I0.alloc I0.size _), (fun h => upd_mono (I1 (upd_ne h (by decide)))), (fun _ => upd_self), (fun h => f0 (upd_ne h (by decide))), (fun h => f1 (upd_ne h (by decide))), (fun h => f2 (upd_ne h (by decide))), (fun h => f3 (upd_ne h (by decide))), (fun _ => ⟨ww.heap.size, rfl, fun _ => (own_oneY ww s' j' false 0 (Nat.zero_le _)).reads HAI.out⟩), (fun h => f5 (upd_ne h (by decide))), (fun h => f6 (upd_ne h (by decide))), (fun h => f7 (upd_ne h (by decide))), (fun h => absurd ((upd_ne h (by decide)).symm.trans h8) (by decide)), (fun h => absurd ((upd_ne h (by decide)).symm.trans h9) (by decide)), (fun h => ⟨upd_mono (f10 (upd_ne h (by decide))).1, (f10 (upd_ne h (by decide))).2⟩), (fun h => f11 (upd_ne h (by decide)))⟩
              · obtain rfl := Option.some.inj ho
                refine wpOp_step rfl (fun K' hK => ?_)
                go_simp
                refine hK _ _ ?_
                exact ⟨_, _, _, _, _, _, _, _, _, _, _, _, rfl, (I0), (fun h => upd_mono (I1 (upd_ne h (by decide)))), (fun h => upd_mono (I2 (upd_ne h (by decide)))), (fun h => f0 (upd_ne h (by decide))), (fun h => f1 (upd_ne h (by decide))), (fun h => f2 (upd_ne h (by decide))), (fun h => f3 (upd_ne h (by decide))), (fun h => by
                    obtain ⟨g4, e1, e2⟩ := f4 (upd_ne h (by decide))
                    exact ⟨g4, e1, fun h8 => e2 (by rw [upd_other (by decide)] at h8; exact h8)⟩), (fun _ => rfl), (fun h => f6 (upd_ne h (by decide))), (fun h => f7 (upd_ne h (by decide))), (fun h => by
                    obtain ⟨W', g4, e1, e2, e3, e4⟩ := f8 (upd_ne h (by decide))
                    exact ⟨W', g4, e1, e2, e3, fun h9 => e4 (by rw [upd_other (by decide)] at h9; exact h9)⟩), (fun h => f9 (upd_ne h (by decide))), (fun h => ⟨upd_mono (f10 (upd_ne h (by decide))).1, (f10 (upd_ne h (by decide))).2⟩), (fun h => f11 (upd_ne h (by decide)))⟩
              · obtain rfl := Option.some.inj ho
                refine wpOp_step rfl (fun K' hK => ?_)
                go_simp
                refine hK _ _ ?_
                exact ⟨_, _, _, _, _, _, _, _, _, _, _, _, rfl, (I0), (fun h => upd_mono (I1 (upd_ne h (by decide)))), (fun h => upd_mono (I2 (upd_ne h (by decide)))), (fun h => f0 (upd_ne h (by decide))), (fun h => f1 (upd_ne h (by decide))), (fun h => f2 (upd_ne h (by decide))), (fun h => f3 (upd_ne h (by decide))), (fun h => by
                    obtain ⟨g4, e1, e2⟩ := f4 (upd_ne h (by decide))
                    exact ⟨g4, e1, fun h8 => e2 (by rw [upd_other (by decide)] at h8; exact h8)⟩), (fun h => f5 (upd_ne h (by decide))), (fun _ => rfl), (fun h => f7 (upd_ne h (by decide))), (fun h => by
                    obtain ⟨W', g4, e1, e2, e3, e4⟩ := f8 (upd_ne h (by decide))
                    exact ⟨W', g4, e1, e2, e3, fun h9 => e4 (by rw [upd_other (by decide)] at h9; exact h9)⟩), (fun h => f9 (upd_ne h (by decide))), (fun h => ⟨upd_mono (f10 (upd_ne h (by decide))).1, (f10 (upd_ne h (by decide))).2⟩), (fun h => f11 (upd_ne h (by decide)))⟩
              · obtain rfl := Option.some.inj ho
                have g5 := f5 (hd ⟨5, .data⟩ (by simp) rfl)
                have g6 := f6 (hd ⟨6, .data⟩ (by simp) rfl)
                subst g5
                subst g6
                refine wpOp_step rfl (fun K' hK => ?_)
                go_simp
                refine hK _ _ ?_
                exact ⟨_, _, _, _, _, _, _, _, _, _, _, _, rfl, (I0), (fun h => upd_mono (I1 (upd_ne h (by decide)))), (fun h => upd_mono (I2 (upd_ne h (by decide)))), (fun h => f0 (upd_ne h (by decide))), (fun h => f1 (upd_ne h (by decide))), (fun h => f2 (upd_ne h (by decide))), (fun h => f3 (upd_ne h (by decide))), (fun h => by
                    obtain ⟨g4, e1, e2⟩ := f4 (upd_ne h (by decide))
                    exact ⟨g4, e1, fun h8 => e2 (by rw [upd_other (by decide)] at h8; exact h8)⟩), (fun h => f5 (upd_ne h (by decide))), (fun h => f6 (upd_ne h (by decide))), (fun _ => rfl), (fun h => by
                    obtain ⟨W', g4, e1, e2, e3, e4⟩ := f8 (upd_ne h (by decide))
                    exact ⟨W', g4, e1, e2, e3, fun h9 => e4 (by rw [upd_other (by decide)] at h9; exact h9)⟩), (fun h => f9 (upd_ne h (by decide))), (fun h => ⟨upd_mono (f10 (upd_ne h (by decide))).1, (f10 (upd_ne h (by decide))).2⟩), (fun h => f11 (upd_ne h (by decide)))⟩
              · obtain rfl := Option.some.inj ho
                have g2 := f2 (hd ⟨2, .data⟩ (by simp) rfl)
                have g4' := f4 (hd ⟨4, .data⟩ (by simp) rfl)
                have g7 := f7 (hd ⟨7, .data⟩ (by simp) rfl)
                subst g2
                subst g7
                obtain ⟨g4, rfl, e4⟩ := g4'
                have B4 := e4 hL
                have h9 : L 9 = false := by
                  cases hh : L 9
                  · rfl
                  · exact absurd ((I1 hh).symm.trans hL) (by decide)
                refine wpOp_step rfl (fun K' hK => ?_)
                go_simp
                refine hK _ _ ?_
                exact ⟨_, _, _, _, _, _, _, _, _, _, _, _, rfl, (I0.alloc I0.size _), (fun _ => upd_self), (fun _ => upd_mono (hd ⟨4, .data⟩ (by simp) rfl)), (fun h => f0 (upd_ne h (by decide))), (fun h => f1 (upd_ne h (by decide))), (fun h => f2 (upd_ne h (by decide))), (fun h => f3 (upd_ne h (by decide))), (fun _ => ⟨g4, rfl, fun h => absurd (upd_self.symm.trans h) (by decide)⟩), (fun h => f5 (upd_ne h (by decide))), (fun h => f6 (upd_ne h (by decide))), (fun h => f7 (upd_ne h (by decide))), (fun _ => ⟨ww, g4, rfl, I0, B4, fun _ => rfl⟩), (fun h => absurd ((upd_ne h (by decide)).symm.trans h9) (by decide)), (fun h => ⟨upd_mono (f10 (upd_ne h (by decide))).1, (f10 (upd_ne h (by decide))).2⟩), (fun h => f11 (upd_ne h (by decide)))⟩
              · obtain rfl := Option.some.inj ho
                have g8 := f8 (hd ⟨8, .data⟩ (by simp) rfl)
                obtain ⟨W', g4, rfl, e2, e3, e4⟩ := g8
                have e5x := e4 hL
                subst e5x
                refine wpOp_step rfl (fun K' hK => ?_)
                go_simp
                refine (concat3Y W' _ (some ⟨g, o, none⟩) (some ⟨g4, 0, none⟩) (some ⟨g, o, none⟩) K1 1 0 c 1 0 (xs.take K1) [(⟨s', j', false⟩ : Bl)] ([]) ((HBS6.out.up e2).take (by omega)) e3 (HTL.out W' e2) (by omega)).mono ?_
                rintro e w' ⟨v9, rfl, o9, b9⟩
                refine hK _ _ ?_
                exact ⟨_, _, _, _, _, _, _, _, _, _, _, _, rfl, (e2.trans (b9.mono e2.size)), (fun _ => upd_mono (hd ⟨8, .data⟩ (by simp) rfl)), (fun h => upd_mono (I2 (upd_ne h (by decide)))), (fun h => f0 (upd_ne h (by decide))), (fun h => f1 (upd_ne h (by decide))), (fun h => f2 (upd_ne h (by decide))), (fun h => f3 (upd_ne h (by decide))), (fun h => by
                    obtain ⟨g4', e1, _⟩ := f4 (upd_ne h (by decide))
                    exact ⟨g4', e1, fun h8 => absurd ((upd_other (by decide)).symm.trans h8) (by rw [hd ⟨8, .data⟩ (by simp) rfl]; decide)⟩), (fun h => f5 (upd_ne h (by decide))), (fun h => f6 (upd_ne h (by decide))), (fun h => f7 (upd_ne h (by decide))), (fun _ => ⟨W', g4, rfl, e2, e3, fun h => absurd (upd_self.symm.trans h) (by decide)⟩), (fun _ => o9.base e2.size), (fun h => absurd ((f10 (upd_ne h (by decide))).1.symm.trans hL) (by decide)), (fun h => f11 (upd_ne h (by decide)))⟩
              · obtain rfl := Option.some.inj ho
                have g9 := f9 (hd ⟨9, .data⟩ (by simp) rfl)
                refine wpOp_step rfl (fun K' hK => ?_)
                go_simp
                refine hK _ _ ?_
                exact ⟨_, _, _, _, _, _, _, _, _, _, _, _, rfl, (I0), (fun h => upd_mono (I1 (upd_ne h (by decide)))), (fun h => upd_mono (I2 (upd_ne h (by decide)))), (fun h => f0 (upd_ne h (by decide))), (fun h => f1 (upd_ne h (by decide))), (fun h => f2 (upd_ne h (by decide))), (fun h => f3 (upd_ne h (by decide))), (fun h => by
                    obtain ⟨g4, e1, e2⟩ := f4 (upd_ne h (by decide))
                    exact ⟨g4, e1, fun h8 => e2 (by rw [upd_other (by decide)] at h8; exact h8)⟩), (fun h => f5 (upd_ne h (by decide))), (fun h => f6 (upd_ne h (by decide))), (fun h => f7 (upd_ne h (by decide))), (fun h => by
                    obtain ⟨W', g4, e1, e2, e3, e4⟩ := f8 (upd_ne h (by decide))
                    exact ⟨W', g4, e1, e2, e3, fun h9 => e4 (by rw [upd_other (by decide)] at h9; exact h9)⟩), (fun h => f9 (upd_ne h (by decide))), (fun _ => ⟨upd_mono (hd ⟨9, .data⟩ (by simp) rfl), rfl⟩), (fun h => f11 (upd_ne h (by decide)))⟩
              · obtain rfl := Option.some.inj ho
                refine wpOp_step rfl (fun K' hK => ?_)
                go_simp
                refine hK _ _ ?_
                exact ⟨_, _, _, _, _, _, _, _, _, _, _, _, rfl, (I0), (fun h => upd_mono (I1 (upd_ne h (by decide)))), (fun h => upd_mono (I2 (upd_ne h (by decide)))), (fun h => f0 (upd_ne h (by decide))), (fun h => f1 (upd_ne h (by decide))), (fun h => f2 (upd_ne h (by decide))), (fun h => f3 (upd_ne h (by decide))), (fun h => by
                    obtain ⟨g4, e1, e2⟩ := f4 (upd_ne h (by decide))
                    exact ⟨g4, e1, fun h8 => e2 (by rw [upd_other (by decide)] at h8; exact h8)⟩), (fun h => f5 (upd_ne h (by decide))), (fun h => f6 (upd_ne h (by decide))), (fun h => f7 (upd_ne h (by decide))), (fun h => by
                    obtain ⟨W', g4, e1, e2, e3, e4⟩ := f8 (upd_ne h (by decide))
                    exact ⟨W', g4, e1, e2, e3, fun h9 => e4 (by rw [upd_other (by decide)] at h9; exact h9)⟩), (fun h => f9 (upd_ne h (by decide))), (fun h => ⟨upd_mono (f10 (upd_ne h (by decide))).1, (f10 (upd_ne h (by decide))).2⟩), (fun _ => rfl)⟩
            case hdone =>
              rintro L a ww hall ⟨t6, t7, t61, t62, t63, t64, t65, t66, t67, t68, t69, t70, rfl, I0, I1, I2, f0, f1, f2, f3, f4, f5, f6, f7, f8, f9, f10, f11⟩
              have e0 := f0 (hall 0 (by decide))
              have e1 := f1 (hall 1 (by decide))
              have e2 := f2 (hall 2 (by decide))
              have e3 := f3 (hall 3 (by decide))
              have e4 := f4 (hall 4 (by decide))
              have e5' := f5 (hall 5 (by decide))
              have e6 := f6 (hall 6 (by decide))
              have e7 := f7 (hall 7 (by decide))
              have e8 := f8 (hall 8 (by decide))
              have e9 := f9 (hall 9 (by decide))
              have e10 := f10 (hall 10 (by decide))
              have e11 := f11 (hall 11 (by decide))
              clear f0 f1 f2 f3 f4 f5 f6 f7 f8 f9 f10 f11
              obtain ⟨_, rfl⟩ := e10
              subst e11
              clear e0 e1 e2 e3 e4 e5' e6 e7 e8
              go_wp2_with fail
              go_ret2
              exact GaveY2.of (e9.base bW6.size) (bW6.trans (I0.mono bW6.size)) (by rw [HPG.out]; rw [HD.out]) HOK.out.symm
          · have v3 : (K2 : Int) ≤ n := by omega
            have v4 : (K2 : Int) ≤ c := by omega
            have HTL := Lib.hid (fun W' (e2 : Below W6.heap.size W6 W') => (HBS6.out.up e2).drop (k := K2) (by omega))
            refine wp_region_inv (by kernel_rfl) (by kernel_rfl) (fun L a ww => ∃ t6 t7 t61 t62 t63 t64 t65 t66 t67 t68 t69 t70 : Value, a = { tmps := #[.slice (some ⟨g, o, none⟩) n c, .int .i64 p, .int .i64 cc, undef, undef, undef, t6, t7, .int .i64 F, .pointer (some ⟨ga, 0, none⟩), .int .i64 K1, .int .i64 K2, .slice (some ⟨g, o, none⟩) n c, .int .i64 p, .bool true, .bool false, .slice (some ⟨g, o, none⟩) n c, .int .i64 cc, .int .i64 F, .int .i64 F, .slice (some ⟨g, o, none⟩) n c, .int .i64 n, .bool false, .bool false, .slice (some ⟨g, o, none⟩) n c, .int .i64 F, .pointer (some ⟨g, o + F * 3, none⟩), .pointer (some ⟨g, o + F * 3, none⟩), .int .i64 cc, .int .i64 cc, .bool false, .bool false, .bool false, .slice (some ⟨g, o, none⟩) n c, .int .i64 F, .pointer (some ⟨g, o + F * 3, none⟩), .pointer (some ⟨g, o + F * 3 + 2, none⟩), .bool true, .bool false, .bool false, undef, undef, .slice (some ⟨g, o, none⟩) n c, .agg (flv A' N C), .slice (some ⟨g, o, none⟩) n c, .int .i64 F, .pointer (some ⟨g, o + F * 3, none⟩), .agg #[.int .i64 cc, .int .i64 j, .bool true], .agg #[.int .i64 s', .int .i64 j', .bool false], .slice (some ⟨g, o, none⟩) n c, .pointer (some ⟨ga, 0, none⟩), .int .i64 s', .int .i64 K1, .slice (some ⟨g, o, none⟩) n c, .pointer (some ⟨ga, 0, none⟩), .int .i64 s', .pointer (some ⟨ga, 1, none⟩), .int .i64 j', .int .i64 (2 ^ j'), .int .i64 ((s' : Int) + 2 ^ j'), .int .i64 K2, t61, t62, t63, t64, t65, t66, t67, t68, t69, t70], defers := [] } ∧ (Below W6.heap.size W6 ww) ∧ (L 9 = true → L 8 = true) ∧ (L 8 = true → L 4 = true) ∧ (L 0 = true → t61 = .slice (some ⟨g, o, none⟩) n c) ∧ (L 1 = true → t62 = .int .i64 K1) ∧ (L 2 = true → t63 = .slice (some ⟨g, o, none⟩) K1 c) ∧ (L 3 = true → t64 = .agg #[.int .i64 s', .int .i64 j', .bool false]) ∧ (L 4 = true → ∃ g4, t65 = .slice (some ⟨g4, 0, none⟩) 1 1 ∧ (L 8 = false → BS ww ww.heap.size (some ⟨g4, 0, none⟩) 1 [(⟨s', j', false⟩ : Bl)])) ∧ (L 5 = true → t66 = .slice (some ⟨g, o, none⟩) n c) ∧ (L 6 = true → t67 = .int .i64 K2) ∧ (L 7 = true → t68 = .slice (some ⟨g, o + K2 * 3, none⟩) (n - K2) (c - K2)) ∧ (L 8 = true → ∃ W' g4, t69 = .slice (some ⟨W'.heap.size, 0, none⟩) 3 3 ∧ Below W6.heap.size W6 W' ∧ BS W' W'.heap.size (some ⟨g4, 0, none⟩) 1 [(⟨s', j', false⟩ : Bl)] ∧ (L 9 = false → ww = W'.alloc (.cells #[.slice (some ⟨g, o, none⟩) K1 c, .slice (some ⟨g4, 0, none⟩) 1 1, .slice (some ⟨g, o + K2 * 3, none⟩) (n - K2) (c - K2)] 27))) ∧ (L 9 = true → OwnY ww W6.heap.size t70 (xs.take K1 ++ [(⟨s', j', false⟩ : Bl)] ++ xs.drop K2)) ∧ (L 10 = true → L 9 = true ∧ t6 = t70) ∧ (L 11 = true → t7 = .bool true)) ?h0 ?hstep ?hdone
            case h0 => exact ⟨_, _, _, _, _, _, _, _, _, _, _, _, rfl, h6W, (fun h => absurd h Bool.false_ne_true), (fun h => absurd h Bool.false_ne_true), (fun h => absurd h Bool.false_ne_true), (fun h => absurd h Bool.false_ne_true), (fun h => absurd h Bool.false_ne_true), (fun h => absurd h Bool.false_ne_true), (fun h => absurd h Bool.false_ne_true), (fun h => absurd h Bool.false_ne_true), (fun h => absurd h Bool.false_ne_true), (fun h => absurd h Bool.false_ne_true), (fun h => absurd h Bool.false_ne_true), (fun h => absurd h Bool.false_ne_true), (fun h => absurd h Bool.false_ne_true), (fun h => absurd h Bool.false_ne_true)⟩
            case hstep =>
              rintro L a ww i o ho hL hd ⟨t6, t7, t61, t62, t63, t64, t65, t66, t67, t68, t69, t70, rfl, I0, I1, I2, f0, f1, f2, f3, f4, f5, f6, f7, f8, f9, f10, f11⟩
              have hi : i < 12 := (Array.getElem?_eq_some_iff.1 ho).1
              obtain rfl | rfl | rfl | rfl | rfl | rfl | rfl | rfl | rfl | rfl | rfl | rfl : i = 0 ∨ i = 1 ∨ i = 2 ∨ i = 3 ∨ i = 4 ∨ i = 5 ∨ i = 6 ∨ i = 7 ∨ i = 8 ∨ i = 9 ∨ i = 10 ∨ i = 11 := by omega
              · obtain rfl := Option.some.inj ho
                refine wpOp_step rfl (fun K' hK => ?_)
                go_simp
                refine hK _ _ ?_
                exact ⟨_, _, _, _, _, _, _, _, _, _, _, _, rfl, (I0), (fun h => upd_mono (I1 (upd_ne h (by decide)))), (fun h => upd_mono (I2 (upd_ne h (by decide)))), (fun _ => rfl), (fun h => f1 (upd_ne h (by decide))), (fun h => f2 (upd_ne h (by decide))), (fun h => f3 (upd_ne h (by decide))), (fun h => by
                    obtain ⟨g4, e1, e2⟩ := f4 (upd_ne h (by decide))
                    exact ⟨g4, e1, fun h8 => e2 (by rw [upd_other (by decide)] at h8; exact h8)⟩), (fun h => f5 (upd_ne h (by decide))), (fun h => f6 (upd_ne h (by decide))), (fun h => f7 (upd_ne h (by decide))), (fun h => by
                    obtain ⟨W', g4, e1, e2, e3, e4⟩ := f8 (upd_ne h (by decide))
                    exact ⟨W', g4, e1, e2, e3, fun h9 => e4 (by rw [upd_other (by decide)] at h9; exact h9)⟩), (fun h => f9 (upd_ne h (by decide))), (fun h => ⟨upd_mono (f10 (upd_ne h (by decide))).1, (f10 (upd_ne h (by decide))).2⟩), (fun h => f11 (upd_ne h (by decide)))⟩
              · obtain rfl := Option.some.inj ho
                refine wpOp_step rfl (fun K' hK => ?_)
                go_simp
                refine hK _ _ ?_
                exact ⟨_, _, _, _, _, _, _, _, _, _, _, _, rfl, (I0), (fun h => upd_mono (I1 (upd_ne h (by decide)))), (fun h => upd_mono (I2 (upd_ne h (by decide)))), (fun h => f0 (upd_ne h (by decide))), (fun _ => rfl), (fun h => f2 (upd_ne h (by decide))), (fun h => f3 (upd_ne h (by decide))), (fun h => by
                    obtain ⟨g4, e1, e2⟩ := f4 (upd_ne h (by decide))
                    exact ⟨g4, e1, fun h8 => e2 (by rw [upd_other (by decide)] at h8; exact h8)⟩), (fun h => f5 (upd_ne h (by decide))), (fun h => f6 (upd_ne h (by decide))), (fun h => f7 (upd_ne h (by decide))), (fun h => by
                    obtain ⟨W', g4, e1, e2, e3, e4⟩ := f8 (upd_ne h (by decide))
                    exact ⟨W', g4, e1, e2, e3, fun h9 => e4 (by rw [upd_other (by decide)] at h9; exact h9)⟩), (fun h => f9 (upd_ne h (by decide))), (fun h => ⟨upd_mono (f10 (upd_ne h (by decide))).1, (f10 (upd_ne h (by decide))).2⟩), (fun h => f11 (upd_ne h (by decide)))⟩
              · obtain rfl := Option.some.inj ho
                have g0 := f0 (hd ⟨0, .data⟩ (by simp) rfl)
                have g1 := f1 (hd ⟨1, .data⟩ (by simp) rfl)
                subst g0
                subst g1
                refine wpOp_step rfl (fun K' hK => ?_)
                go_simp
                refine hK _ _ ?_
                exact ⟨_, _, _, _, _, _, _, _, _, _, _, _, rfl, (I0), (fun h => upd_mono (I1 (upd_ne h (by decide)))), (fun h => upd_mono (I2 (upd_ne h (by decide)))), (fun h => f0 (upd_ne h (by decide))), (fun h => f1 (upd_ne h (by decide))), (fun _ => rfl), (fun h => f3 (upd_ne h (by decide))), (fun h => by
                    obtain ⟨g4, e1, e2⟩ := f4 (upd_ne h (by decide))
                    exact ⟨g4, e1, fun h8 => e2 (by rw [upd_other (by decide)] at h8; exact h8)⟩), (fun h => f5 (upd_ne h (by decide))), (fun h => f6 (upd_ne h (by decide))), (fun h => f7 (upd_ne h (by decide))), (fun h => by
                    obtain ⟨W', g4, e1, e2, e3, e4⟩ := f8 (upd_ne h (by decide))
                    exact ⟨W', g4, e1, e2, e3, fun h9 => e4 (by rw [upd_other (by decide)] at h9; exact h9)⟩), (fun h => f9 (upd_ne h (by decide))), (fun h => ⟨upd_mono (f10 (upd_ne h (by decide))).1, (f10 (upd_ne h (by decide))).2⟩), (fun h => f11 (upd_ne h (by decide)))⟩
              · obtain rfl := Option.some.inj ho
                obtain ⟨k0, k1, k2⟩ := HC6.out ww I0
                refine wpOp_step rfl (fun K' hK => ?_)
                go_simp
                refine hK _ _ ?_
                exact ⟨_, _, _, _, _, _, _, _, _, _, _, _, rfl, (I0), (fun h => upd_mono (I1 (upd_ne h (by decide)))), (fun h => upd_mono (I2 (upd_ne h (by decide)))), (fun h => f0 (upd_ne h (by decide))), (fun h => f1 (upd_ne h (by decide))), (fun h => f2 (upd_ne h (by decide))), (fun _ => rfl), (fun h => by
                    obtain ⟨g4, e1, e2⟩ := f4 (upd_ne h (by decide))
                    exact ⟨g4, e1, fun h8 => e2 (by rw [upd_other (by decide)] at h8; exact h8)⟩), (fun h => f5 (upd_ne h (by decide))), (fun h => f6 (upd_ne h (by decide))), (fun h => f7 (upd_ne h (by decide))), (fun h => by
                    obtain ⟨W', g4, e1, e2, e3, e4⟩ := f8 (upd_ne h (by decide))
                    exact ⟨W', g4, e1, e2, e3, fun h9 => e4 (by rw [upd_other (by decide)] at h9; exact h9)⟩), (fun h => f9 (upd_ne h (by decide))), (fun h => ⟨upd_mono (f10 (upd_ne h (by decide))).1, (f10 (upd_ne h (by decide))).2⟩), (fun h => f11 (upd_ne h (by decide)))⟩
              · obtain rfl := Option.some.inj ho
                have g3 := f3 (hd ⟨3, .data⟩ (by simp) rfl)
                subst g3
                have h8 : L 8 = false := by
                  cases hh : L 8
                  · rfl
                  · exact absurd ((I2 hh).symm.trans hL) (by decide)
                have h9 : L 9 = false := by
                  cases hh : L 9
                  · rfl
                  · exact absurd ((I1 hh).symm.trans h8) (by decide)
                refine wpOp_step rfl (fun K' hK => ?_)
                go_simp
                refine hK _ _ ?_
                exact ⟨_, _, _, _, _, _, _, _, _, _, _, _, rfl, (I0.alloc I0.size _), (fun h => upd_mono (I1 (upd_ne h (by decide)))), (fun _ => upd_self), (fun h => f0 (upd_ne h (by decide))), (fun h => f1 (upd_ne h (by decide))), (fun h => f2 (upd_ne h (by decide))), (fun h => f3 (upd_ne h (by decide))), (fun _ => ⟨ww.heap.size, rfl, fun _ => (own_oneY ww s' j' false 0 (Nat.zero_le _)).reads HAI.out⟩), (fun h => f5 (upd_ne h (by decide))), (fun h => f6 (upd_ne h (by decide))), (fun h => f7 (upd_ne h (by decide))), (fun h => absurd ((upd_ne h (by decide)).symm.trans h8) (by decide)), (fun h => absurd ((upd_ne h (by decide)).symm.trans h9) (by decide)), (fun h => ⟨upd_mono (f10 (upd_ne h (by decide))).1, (f10 (upd_ne h (by decide))).2⟩), (fun h => f11 (upd_ne h (by decide)))⟩
              · obtain rfl := Option.some.inj ho
                refine wpOp_step rfl (fun K' hK => ?_)
                go_simp
                refine hK _ _ ?_
                exact ⟨_, _, _, _, _, _, _, _, _, _, _, _, rfl, (I0), (fun h => upd_mono (I1 (upd_ne h (by decide)))), (fun h => upd_mono (I2 (upd_ne h (by decide)))), (fun h => f0 (upd_ne h (by decide))), (fun h => f1 (upd_ne h (by decide))), (fun h => f2 (upd_ne h (by decide))), (fun h => f3 (upd_ne h (by decide))), (fun h => by
                    obtain ⟨g4, e1, e2⟩ := f4 (upd_ne h (by decide))
                    exact ⟨g4, e1, fun h8 => e2 (by rw [upd_other (by decide)] at h8; exact h8)⟩), (fun _ => rfl), (fun h => f6 (upd_ne h (by decide))), (fun h => f7 (upd_ne h (by decide))), (fun h => by
                    obtain ⟨W', g4, e1, e2, e3, e4⟩ := f8 (upd_ne h (by decide))
                    exact ⟨W', g4, e1, e2, e3, fun h9 => e4 (by rw [upd_other (by decide)] at h9; exact h9)⟩), (fun h => f9 (upd_ne h (by decide))), (fun h => ⟨upd_mono (f10 (upd_ne h (by decide))).1, (f10 (upd_ne h (by decide))).2⟩), (fun h => f11 (upd_ne h (by decide)))⟩
              · obtain rfl := Option.some.inj ho
                refine wpOp_step rfl (fun K' hK => ?_)
                go_simp
                refine hK _ _ ?_
                exact ⟨_, _, _, _, _, _, _, _, _, _, _, _, rfl, (I0), (fun h => upd_mono (I1 (upd_ne h (by decide)))), (fun h => upd_mono (I2 (upd_ne h (by decide)))), (fun h => f0 (upd_ne h (by decide))), (fun h => f1 (upd_ne h (by decide))), (fun h => f2 (upd_ne h (by decide))), (fun h => f3 (upd_ne h (by decide))), (fun h => by
                    obtain ⟨g4, e1, e2⟩ := f4 (upd_ne h (by decide))
                    exact ⟨g4, e1, fun h8 => e2 (by rw [upd_other (by decide)] at h8; exact h8)⟩), (fun h => f5 (upd_ne h (by decide))), (fun _ => rfl), (fun h => f7 (upd_ne h (by decide))), (fun h => by
                    obtain ⟨W', g4, e1, e2, e3, e4⟩ := f8 (upd_ne h (by decide))
                    exact ⟨W', g4, e1, e2, e3, fun h9 => e4 (by rw [upd_other (by decide)] at h9; exact h9)⟩), (fun h => f9 (upd_ne h (by decide))), (fun h => ⟨upd_mono (f10 (upd_ne h (by decide))).1, (f10 (upd_ne h (by decide))).2⟩), (fun h => f11 (upd_ne h (by decide)))⟩
              · obtain rfl := Option.some.inj ho
                have g5 := f5 (hd ⟨5, .data⟩ (by simp) rfl)
                have g6 := f6 (hd ⟨6, .data⟩ (by simp) rfl)
                subst g5
                subst g6
                refine wpOp_step rfl (fun K' hK => ?_)
                go_simp
                refine hK _ _ ?_
                exact ⟨_, _, _, _, _, _, _, _, _, _, _, _, rfl, (I0), (fun h => upd_mono (I1 (upd_ne h (by decide)))), (fun h => upd_mono (I2 (upd_ne h (by decide)))), (fun h => f0 (upd_ne h (by decide))), (fun h => f1 (upd_ne h (by decide))), (fun h => f2 (upd_ne h (by decide))), (fun h => f3 (upd_ne h (by decide))), (fun h => by
                    obtain ⟨g4, e1, e2⟩ := f4 (upd_ne h (by decide))
                    exact ⟨g4, e1, fun h8 => e2 (by rw [upd_other (by decide)] at h8; exact h8)⟩), (fun h => f5 (upd_ne h (by decide))), (fun h => f6 (upd_ne h (by decide))), (fun _ => rfl), (fun h => by
                    obtain ⟨W', g4, e1, e2, e3, e4⟩ := f8 (upd_ne h (by decide))
                    exact ⟨W', g4, e1, e2, e3, fun h9 => e4 (by rw [upd_other (by decide)] at h9; exact h9)⟩), (fun h => f9 (upd_ne h (by decide))), (fun h => ⟨upd_mono (f10 (upd_ne h (by decide))).1, (f10 (upd_ne h (by decide))).2⟩), (fun h => f11 (upd_ne h (by decide)))⟩
              · obtain rfl := Option.some.inj ho
                have g2 := f2 (hd ⟨2, .data⟩ (by simp) rfl)
                have g4' := f4 (hd ⟨4, .data⟩ (by simp) rfl)
                have g7 := f7 (hd ⟨7, .data⟩ (by simp) rfl)
                subst g2
                subst g7
                obtain ⟨g4, rfl, e4⟩ := g4'
                have B4 := e4 hL
                have h9 : L 9 = false := by
                  cases hh : L 9
                  · rfl
                  · exact absurd ((I1 hh).symm.trans hL) (by decide)
                refine wpOp_step rfl (fun K' hK => ?_)
                go_simp
                refine hK _ _ ?_
                exact ⟨_, _, _, _, _, _, _, _, _, _, _, _, rfl, (I0.alloc I0.size _), (fun _ => upd_self), (fun _ => upd_mono (hd ⟨4, .data⟩ (by simp) rfl)), (fun h => f0 (upd_ne h (by decide))), (fun h => f1 (upd_ne h (by decide))), (fun h => f2 (upd_ne h (by decide))), (fun h => f3 (upd_ne h (by decide))), (fun _ => ⟨g4, rfl, fun h => absurd (upd_self.symm.trans h) (by decide)⟩), (fun h => f5 (upd_ne h (by decide))), (fun h => f6 (upd_ne h (by decide))), (fun h => f7 (upd_ne h (by decide))), (fun _ => ⟨ww, g4, rfl, I0, B4, fun _ => rfl⟩), (fun h => absurd ((upd_ne h (by decide)).symm.trans h9) (by decide)), (fun h => ⟨upd_mono (f10 (upd_ne h (by decide))).1, (f10 (upd_ne h (by decide))).2⟩), (fun h => f11 (upd_ne h (by decide)))⟩
              · obtain rfl := Option.some.inj ho
                have g8 := f8 (hd ⟨8, .data⟩ (by simp) rfl)
                obtain ⟨W', g4, rfl, e2, e3, e4⟩ := g8
                have e5x := e4 hL
                subst e5x
                refine wpOp_step rfl (fun K' hK => ?_)
                go_simp
                refine (concat3Y W' _ (some ⟨g, o, none⟩) (some ⟨g4, 0, none⟩) (some ⟨g, o + K2 * 3, none⟩) K1 1 (n - K2) c 1 (c - K2) (xs.take K1) [(⟨s', j', false⟩ : Bl)] (xs.drop K2) ((HBS6.out.up e2).take (by omega)) e3 (HTL.out W' e2) (by omega)).mono ?_
                rintro e w' ⟨v9, rfl, o9, b9⟩
                refine hK _ _ ?_
                exact ⟨_, _, _, _, _, _, _, _, _, _, _, _, rfl, (e2.trans (b9.mono e2.size)), (fun _ => upd_mono (hd ⟨8, .data⟩ (by simp) rfl)), (fun h => upd_mono (I2 (upd_ne h (by decide)))), (fun h => f0 (upd_ne h (by decide))), (fun h => f1 (upd_ne h (by decide))), (fun h => f2 (upd_ne h (by decide))), (fun h => f3 (upd_ne h (by decide))), (fun h => by
                    obtain ⟨g4', e1, _⟩ := f4 (upd_ne h (by decide))
                    exact ⟨g4', e1, fun h8 => absurd ((upd_other (by decide)).symm.trans h8) (by rw [hd ⟨8, .data⟩ (by simp) rfl]; decide)⟩), (fun h => f5 (upd_ne h (by decide))), (fun h => f6 (upd_ne h (by decide))), (fun h => f7 (upd_ne h (by decide))), (fun _ => ⟨W', g4, rfl, e2, e3, fun h => absurd (upd_self.symm.trans h) (by decide)⟩), (fun _ => o9.base e2.size), (fun h => absurd ((f10 (upd_ne h (by decide))).1.symm.trans hL) (by decide)), (fun h => f11 (upd_ne h (by decide)))⟩
              · obtain rfl := Option.some.inj ho
                have g9 := f9 (hd ⟨9, .data⟩ (by simp) rfl)
                refine wpOp_step rfl (fun K' hK => ?_)
                go_simp
                refine hK _ _ ?_
                exact ⟨_, _, _, _, _, _, _, _, _, _, _, _, rfl, (I0), (fun h => upd_mono (I1 (upd_ne h (by decide)))), (fun h => upd_mono (I2 (upd_ne h (by decide)))), (fun h => f0 (upd_ne h (by decide))), (fun h => f1 (upd_ne h (by decide))), (fun h => f2 (upd_ne h (by decide))), (fun h => f3 (upd_ne h (by decide))), (fun h => by
                    obtain ⟨g4, e1, e2⟩ := f4 (upd_ne h (by decide))
                    exact ⟨g4, e1, fun h8 => e2 (by rw [upd_other (by decide)] at h8; exact h8)⟩), (fun h => f5 (upd_ne h (by decide))), (fun h => f6 (upd_ne h (by decide))), (fun h => f7 (upd_ne h (by decide))), (fun h => by
                    obtain ⟨W', g4, e1, e2, e3, e4⟩ := f8 (upd_ne h (by decide))
                    exact ⟨W', g4, e1, e2, e3, fun h9 => e4 (by rw [upd_other (by decide)] at h9; exact h9)⟩), (fun h => f9 (upd_ne h (by decide))), (fun _ => ⟨upd_mono (hd ⟨9, .data⟩ (by simp) rfl), rfl⟩), (fun h => f11 (upd_ne h (by decide)))⟩
              · obtain rfl := Option.some.inj ho
                refine wpOp_step rfl (fun K' hK => ?_)
                go_simp
                refine hK _ _ ?_
                exact ⟨_, _, _, _, _, _, _, _, _, _, _, _, rfl, (I0), (fun h => upd_mono (I1 (upd_ne h (by decide)))), (fun h => upd_mono (I2 (upd_ne h (by decide)))), (fun h => f0 (upd_ne h (by decide))), (fun h => f1 (upd_ne h (by decide))), (fun h => f2 (upd_ne h (by decide))), (fun h => f3 (upd_ne h (by decide))), (fun h => by
                    obtain ⟨g4, e1, e2⟩ := f4 (upd_ne h (by decide))
                    exact ⟨g4, e1, fun h8 => e2 (by rw [upd_other (by decide)] at h8; exact h8)⟩), (fun h => f5 (upd_ne h (by decide))), (fun h => f6 (upd_ne h (by decide))), (fun h => f7 (upd_ne h (by decide))), (fun h => by
                    obtain ⟨W', g4, e1, e2, e3, e4⟩ := f8 (upd_ne h (by decide))
                    exact ⟨W', g4, e1, e2, e3, fun h9 => e4 (by rw [upd_other (by decide)] at h9; exact h9)⟩), (fun h => f9 (upd_ne h (by decide))), (fun h => ⟨upd_mono (f10 (upd_ne h (by decide))).1, (f10 (upd_ne h (by decide))).2⟩), (fun _ => rfl)⟩
            case hdone =>
              rintro L a ww hall ⟨t6, t7, t61, t62, t63, t64, t65, t66, t67, t68, t69, t70, rfl, I0, I1, I2, f0, f1, f2, f3, f4, f5, f6, f7, f8, f9, f10, f11⟩
              have e0 := f0 (hall 0 (by decide))
              have e1 := f1 (hall 1 (by decide))
              have e2 := f2 (hall 2 (by decide))
              have e3 := f3 (hall 3 (by decide))
              have e4 := f4 (hall 4 (by decide))
              have e5' := f5 (hall 5 (by decide))
              have e6 := f6 (hall 6 (by decide))
              have e7 := f7 (hall 7 (by decide))
              have e8 := f8 (hall 8 (by decide))
              have e9 := f9 (hall 9 (by decide))
              have e10 := f10 (hall 10 (by decide))
              have e11 := f11 (hall 11 (by decide))
              clear f0 f1 f2 f3 f4 f5 f6 f7 f8 f9 f10 f11
              obtain ⟨_, rfl⟩ := e10
              subst e11
              clear e0 e1 e2 e3 e4 e5' e6 e7 e8
              go_wp2_with fail
              go_ret2
              exact GaveY2.of (e9.base bW6.size) (bW6.trans (I0.mono bW6.size)) (by rw [HPG.out]; skip) HOK.out.symm

      · have HNO := Lib.hid (show Bud.okG xs a = false by
          cases hk : Bud.okG xs a
          · rfl
          · obtain ⟨y, hy, y1, y2⟩ := HOI.out.1 hk
            obtain rfl : x = y := Option.some.inj (HX.out.symm.trans hy)
            exact absurd ⟨y1, y2⟩ hok)
        by_cases hs : x.s = a
        · have hu : x.u = false := by
            cases hu : x.u
            · rfl
            · exact absurd ⟨hs, hu⟩ hok
          rw [hu] at c3
          have hse : (x.s != a) = false := by simp [hs]
          clear hs hu hok
          go_wp2_with fail
          refine (cloneY_any _ _ _ xs _ (h.up bb2) hn).mono ?_
          rintro e w4 ⟨v4, rfl, o4, b4⟩
          go_wp2_with fail
          go_ret2
          exact GaveY2.of (o4.base bb2.size) (bb2.trans (b4.mono bb2.size)) (Bud.giveY_not HNO.out).symm HNO.out.symm
        · have hse : (x.s != a) = true := by rw [bne_iff_ne]; exact hs
          clear hs hok
          go_wp2_with fail
          refine (cloneY_any _ _ _ xs _ (h.up bb2) hn).mono ?_
          rintro e w4 ⟨v4, rfl, o4, b4⟩
          go_wp2_with fail
          go_ret2
          exact GaveY2.of (o4.base bb2.size) (bb2.trans (b4.mono bb2.size)) (Bud.giveY_not HNO.out).symm HNO.out.symm
    · obtain rfl : F = n := by omega
      have HNO := Lib.hid (show Bud.okG xs a = false by
        cases hk : Bud.okG xs a
        · rfl
        · obtain ⟨y, hy, _⟩ := HOI.out.1 hk
          have := (List.getElem?_eq_some_iff.1 hy).1
          rw [HL.out] at this
          omega)
      go_wp2_with fail
      refine (cloneY_any _ _ _ xs _ (h.up bb2) hn).mono ?_
      rintro e w4 ⟨v4, rfl, o4, b4⟩
      go_wp2_with fail
      go_ret2
      exact GaveY2.of (o4.base bb2.size) (bb2.trans (b4.mono bb2.size)) (Bud.giveY_not HNO.out).symm HNO.out.symm
end Go.Proofs.Ythihaclhlmpioaa
