/- What the program's firstCell returns: for every list of numbers. No conditions. -/
import Derived.Test.YtmjejcfifkbkoaaGw
import Derived.Test.YtmjejcfifkbkoaaMc
import Derived.Test.YtmjejcfifkbkoaaHx
import Derived.Deep.Cut
namespace Go.Proofs.Ytmjejcfifkbkoaa
open Go.RowKit
set_option maxRecDepth 100000

set_option maxHeartbeats 2000000 in
theorem firstCell_no (A : Option Addr) (n c B : Nat) (xs : List Int) (w : World) (h : IS w B A n xs) (hB : B ≤ w.heap.size) (hn : n ≤ 1099511627776) (hno : n < 2 ∨ ∃ x : Int, xs[1]? = some x ∧ ¬ (0 ≤ x ∧ x ≤ (n : Int) - 2)) :
    Calls Try.prog 124 #[.slice A n c] w fun e w' => e = .returned (.tuple #[.agg #[.bool false, .int .i64 0, .slice none 0 0], .slice none 0 0, .bool false]) ∧ Below w.heap.size w w' := by
  have b0 : Below w.heap.size w (w.alloc (.cells #[.bool false, .int .i64 0, .slice none 0 0] 61)) := (Below.refl _ _).alloc (Nat.le_refl _) _
  have q0 := Rw.new w 61 #[.bool false, .int .i64 0, .slice none 0 0]
  have r0 := h.below (b0.mono hB)
  by_cases h2 : n < 2
  · have h2' : (n : Int) < 2 := by omega
    clear hno r0
    have z0 := q0.cell 0
    have z1 := q0.cell 1
    have z2 := q0.cell 2
    simp only [List.getElem?_toArray, List.getElem?_cons_zero, List.getElem?_cons_succ] at z0 z1 z2
    clear q0
    go_enter Try.func124, Try.ntmps124
    go_wp2_with fail
    exact bodyPost_ret (v := .tuple #[.agg #[.bool false, .int .i64 0, .slice none 0 0], .slice none 0 0, .bool false]) (by simp [results, Try.results124, go_sem, *]) rfl ⟨rfl, b0⟩
  · have h2' : ¬ (n : Int) < 2 := by omega
    obtain ⟨x, hx, hxo⟩ := hno.resolve_left h2
    obtain ⟨g, o, x0, rfl, hg, hx0, c0⟩ := r0.at_ (k := 0) (by omega)
    obtain ⟨g', o', x1, e1, _, hx1, c1⟩ := r0.at_ (k := 1) (by omega)
    have e1 := Option.some.inj e1
    injection e1 with e1 e2
    subst e1 e2
    rw [hx] at hx1
    obtain rfl := Option.some.inj hx1
    have hin : Hps.inR x 0 ((n : Int) - 2) = false := by
      simp only [Hps.inR, Bool.and_eq_false_iff, decide_eq_false_iff_not]
      omega
    have hw2 : IntKind.i64.wrap ((n : Int) - 2) = (n : Int) - 2 := IntWalk.i64_in _ (by omega)
    have hn1 : (1 : Int) < n := by omega
    have hn0 : (0 : Int) < n := by omega
    rw [Nat.add_zero] at c0
    clear hno h hx hx0 hxo r0
    go_enter Try.func124, Try.ntmps124
    have z0 := q0.cell 0
    have z1 := q0.cell 1
    have z2 := q0.cell 2
    simp only [List.getElem?_toArray, List.getElem?_cons_zero, List.getElem?_cons_succ] at z0 z1 z2
    clear q0
    go_upto_region 3 with fail
    go_quiet (fail)
    go_wp2_with fail
    refine (upTo_is x _ false _ hin).mono ?_
    rintro e w2 ⟨rfl, rfl⟩
    go_wp2_with fail
    exact bodyPost_ret (v := .tuple #[.agg #[.bool false, .int .i64 0, .slice none 0 0], .slice none 0 0, .bool false]) (by simp [results, Try.results124, go_sem, *]) rfl ⟨rfl, (((below_drewN b0 _).setCell (p := ⟨w.heap.size, 0, none⟩) (by simp) _).setCell (p := ⟨w.heap.size, 1, none⟩) (by simp) _).setCell (p := ⟨w.heap.size, 2, none⟩) (by simp) _⟩

set_option maxHeartbeats 2000000 in
theorem firstCell_ok (g o n c B r : Nat) (x : Int) (xs : List Int) (w : World) (h : IS w B (some ⟨g, o, none⟩) n xs) (hB : B ≤ w.heap.size) (hn : n ≤ 1099511627776) (hc : n ≤ c) (h0 : xs[0]? = some x) (h1 : xs[1]? = some (r : Int)) (hr : 2 + r ≤ n) :
    Calls Try.prog 124 #[.slice (some ⟨g, o, none⟩) n c] w fun e w' => ∃ A1 c1 A2 c2, e = .returned (.tuple #[.agg #[.bool true, .int .i64 x, .slice A1 r c1], .slice A2 (n - (2 + r)) c2, .bool true]) ∧ OwnI w' w.heap.size (.slice A1 r c1) ((xs.drop 2).take r) ∧ IS w' B A2 (n - (2 + r)) (xs.drop (2 + r)) ∧ n - (2 + r) ≤ c2 ∧ Below w.heap.size w w' := by
  have b0 : Below w.heap.size w (w.alloc (.cells #[.bool false, .int .i64 0, .slice none 0 0] 61)) := (Below.refl _ _).alloc (Nat.le_refl _) _
  have q0 := Rw.new w 61 #[.bool false, .int .i64 0, .slice none 0 0]
  have r0 := h.below (b0.mono hB)
  have h2' : ¬ (n : Int) < 2 := by omega
  have hn1 : (1 : Int) < n := by omega
  have hn0 : (0 : Int) < n := by omega
  obtain ⟨g', o', x0, e0, _, hx0, c0⟩ := r0.at_ (k := 0) (by omega)
  have e0 := Option.some.inj e0
  injection e0 with e1 e2
  subst e1 e2
  obtain ⟨g', o', x1, e1, _, hx1, c1⟩ := r0.at_ (k := 1) (by omega)
  have e1 := Option.some.inj e1
  injection e1 with e1 e2
  subst e1 e2
  rw [h0] at hx0
  obtain rfl := Option.some.inj hx0
  rw [h1] at hx1
  obtain rfl := Option.some.inj hx1
  have hin : Hps.inR (r : Int) 0 ((n : Int) - 2) = true := by
    simp only [Hps.inR, Bool.and_eq_true, decide_eq_true_eq]
    omega
  have hw2 : IntKind.i64.wrap ((n : Int) - 2) = (n : Int) - 2 := IntWalk.i64_in _ (by omega)
  rw [Nat.add_zero] at c0
  clear h0 h1 hx0 hx1
  go_enter Try.func124, Try.ntmps124
  go_upto_region 3 with fail
  go_quiet (fail)
  go_wp2_with fail
  refine (upTo_is (r : Int) _ true _ hin).mono ?_
  rintro e w2 ⟨rfl, rfl⟩
  go_upto_region 6 with fail
  generalize hw6 : ((w.alloc (.cells #[.bool false, .int .i64 0, .slice none 0 0] 61)).drewN _) = w6
  have b6 : Below w.heap.size w w6 := by rw [← hw6]; exact below_drewN b0 _
  have q6 : Rw w6 w.heap.size 61 #[.bool false, .int .i64 0, .slice none 0 0] := by rw [← hw6]; exact q0
  have r6 : IS w6 B (some ⟨g, o, none⟩) n xs := by rw [← hw6]; exact r0
  have hw2r : IntKind.i64.wrap (2 + (r : Int)) = 2 + (r : Int) := IntWalk.i64_in _ (by omega)
  have hz6 : w.heap.size < w6.heap.size := q6.lt
  obtain ⟨A4, hA4⟩ : ∃ A4, (if c = 2 then some (⟨g, o, none⟩ : Addr) else some ⟨g, o + 2, none⟩) = A4 := ⟨_, rfl⟩
  obtain ⟨A5, hA5⟩ : ∃ A5, (if c = 2 + r then some (⟨g, o, none⟩ : Addr) else some ⟨g, o + (2 + r), none⟩) = A5 := ⟨_, rfl⟩
  have R4 : IS w6 B A4 r ((xs.drop 2).take r) := by
    by_cases e : c = 2
    · obtain rfl : r = 0 := by omega
      rw [List.take_zero]
      exact IS.none_ _ _ _
    · rw [if_neg e] at hA4
      rw [← hA4]
      exact r6.part (by omega)
  have R5 : IS w6 B A5 (n - (2 + r)) (xs.drop (2 + r)) := by
    by_cases e : c = 2 + r
    · have e1 : n - (2 + r) = 0 := by omega
      rw [e1, List.drop_eq_nil_of_le (by rw [r6.1]; omega)]
      exact IS.none_ _ _ _
    · rw [if_neg e] at hA5
      rw [← hA5]
      have := r6.part (i := 2 + r) (r := n - (2 + r)) (by omega)
      rwa [List.take_of_length_le (by rw [List.length_drop, r6.1]; omega)] at this
  have k1 : (0 : Int) ≤ 2 + (r : Int) := by omega
  have k2 : 2 + (r : Int) ≤ c := by omega
  have k3 : 2 + (r : Int) ≤ n := by omega
  have k4 : (2 : Int) ≤ 2 + (r : Int) := by omega
  have k5 : (2 + (r : Int)).toNat = 2 + r := by omega
  have k6 : 2 + r - 2 = r := by omega
  have hl4 := R4.1
  clear hw6 b0 q0 r0 c0 c1 h r6
  refine wp_region_inv (by kernel_rfl) (by kernel_rfl) (fun L ac ww => ∃ t3 t4 t24 t25 t26 t27 t28 t29 t30 t31 t32 t33 t34 : Value, ac = { tmps := #[Value.slice (some { block := g, off := o }) n c, undef, Value.pointer (some { block := w.heap.size, off := 0 }), t3, t4, Value.int IntKind.i64 x, Value.int IntKind.i64 ↑r, Value.slice (some { block := g, off := o }) n c, Value.int IntKind.i64 ↑n, Value.bool false, undef, Value.slice (some { block := g, off := o }) n c, Value.pointer (some { block := g, off := o }), Value.int IntKind.i64 x, Value.slice (some { block := g, off := o }) n c, Value.pointer (some { block := g, off := o + 1 }), Value.int IntKind.i64 ↑r, Value.int IntKind.i64 ↑r, Value.slice (some { block := g, off := o }) n c, Value.int IntKind.i64 ↑n, Value.int IntKind.i64 (↑n - 2), Value.bool true, Value.bool false, undef, t24, t25, t26, t27, t28, t29, t30, t31, t32, t33, t34], defers := [] } ∧ (L 11 = false → Below w6.heap.size w6 ww) ∧ (L 0 = true → t24 = .int .i64 x) ∧ (L 1 = true → t25 = .slice (some ⟨g, o, none⟩) n c) ∧ (L 2 = true → t26 = .int .i64 r) ∧ (L 3 = true → t27 = .int .i64 (2 + (r : Int))) ∧ (L 4 = true → t28 = .slice A4 r (c - 2)) ∧ (L 5 = true → ∃ A1 c1, t29 = .slice A1 r c1 ∧ (L 11 = false → OwnI ww w6.heap.size t29 ((xs.drop 2).take r))) ∧ (L 6 = true → (t30 = .agg #[.bool true, .int .i64 x, t29]) ∧ L 5 = true) ∧ (L 7 = true → t31 = .slice (some ⟨g, o, none⟩) n c) ∧ (L 8 = true → t32 = .int .i64 r) ∧ (L 9 = true → t33 = .int .i64 (2 + (r : Int))) ∧ (L 10 = true → t34 = .slice A5 (n - (2 + r)) (c - (2 + r))) ∧ (L 11 = true → (∃ A1 c1 wp, t29 = .slice A1 r c1 ∧ ww = ((wp.setCell ⟨w.heap.size, 0, none⟩ (.bool true)).setCell ⟨w.heap.size, 1, none⟩ (.int .i64 x)).setCell ⟨w.heap.size, 2, none⟩ (.slice A1 r c1) ∧ OwnI wp w6.heap.size (.slice A1 r c1) ((xs.drop 2).take r) ∧ Below w6.heap.size w6 wp) ∧ L 5 = true) ∧ (L 12 = true → t3 = .slice A5 (n - (2 + r)) (c - (2 + r))) ∧ (L 13 = true → t4 = .bool true)) ?h0 ?hstep ?hdone
  case h0 => exact ⟨_, _, _, _, _, _, _, _, _, _, _, _, _, rfl, fun _ => (Below.refl _ _).drew, (fun h => absurd h Bool.false_ne_true), (fun h => absurd h Bool.false_ne_true), (fun h => absurd h Bool.false_ne_true), (fun h => absurd h Bool.false_ne_true), (fun h => absurd h Bool.false_ne_true), (fun h => absurd h Bool.false_ne_true), (fun h => absurd h Bool.false_ne_true), (fun h => absurd h Bool.false_ne_true), (fun h => absurd h Bool.false_ne_true), (fun h => absurd h Bool.false_ne_true), (fun h => absurd h Bool.false_ne_true), (fun h => absurd h Bool.false_ne_true), (fun h => absurd h Bool.false_ne_true), (fun h => absurd h Bool.false_ne_true)⟩
  case hstep =>
    rintro L ac ww i o ho hL hd ⟨t3, t4, t24, t25, t26, t27, t28, t29, t30, t31, t32, t33, t34, rfl, I0, f0, f1, f2, f3, f4, f5, f6, f7, f8, f9, f10, f11, f12, f13⟩
    have hi : i < 14 := (Array.getElem?_eq_some_iff.1 ho).1
    obtain rfl | rfl | rfl | rfl | rfl | rfl | rfl | rfl | rfl | rfl | rfl | rfl | rfl | rfl : i = 0 ∨ i = 1 ∨ i = 2 ∨ i = 3 ∨ i = 4 ∨ i = 5 ∨ i = 6 ∨ i = 7 ∨ i = 8 ∨ i = 9 ∨ i = 10 ∨ i = 11 ∨ i = 12 ∨ i = 13 := by omega
    · obtain rfl := Option.some.inj ho
      refine wpOp_step rfl (fun K' hK => ?_)
      go_simp
      refine hK _ _ ?_
      exact ⟨_, _, _, _, _, _, _, _, _, _, _, _, _, rfl, (fun h => I0 (by rw [upd_other (by decide)] at h; exact h)), (fun _ => rfl), (kp f1), (kp f2), (kp f3), (kp f4), (fun h => by
        obtain ⟨A1, c1, e, r5⟩ := f5 (upd_ne h (by decide))
        exact ⟨A1, c1, e, fun h11 => r5 (by rw [upd_other (by decide)] at h11; exact h11)⟩), (fun h => ⟨(f6 (upd_ne h (by decide))).1, upd_mono (f6 (upd_ne h (by decide))).2⟩), (kp f7), (kp f8), (kp f9), (kp f10), (fun h => ⟨(f11 (upd_ne h (by decide))).1, upd_mono (f11 (upd_ne h (by decide))).2⟩), (kp f12), (kp f13)⟩
    · obtain rfl := Option.some.inj ho
      refine wpOp_step rfl (fun K' hK => ?_)
      go_simp
      refine hK _ _ ?_
      exact ⟨_, _, _, _, _, _, _, _, _, _, _, _, _, rfl, (fun h => I0 (by rw [upd_other (by decide)] at h; exact h)), (kp f0), (fun _ => rfl), (kp f2), (kp f3), (kp f4), (fun h => by
        obtain ⟨A1, c1, e, r5⟩ := f5 (upd_ne h (by decide))
        exact ⟨A1, c1, e, fun h11 => r5 (by rw [upd_other (by decide)] at h11; exact h11)⟩), (fun h => ⟨(f6 (upd_ne h (by decide))).1, upd_mono (f6 (upd_ne h (by decide))).2⟩), (kp f7), (kp f8), (kp f9), (kp f10), (fun h => ⟨(f11 (upd_ne h (by decide))).1, upd_mono (f11 (upd_ne h (by decide))).2⟩), (kp f12), (kp f13)⟩
    · obtain rfl := Option.some.inj ho
      refine wpOp_step rfl (fun K' hK => ?_)
      go_simp
      refine hK _ _ ?_
      exact ⟨_, _, _, _, _, _, _, _, _, _, _, _, _, rfl, (fun h => I0 (by rw [upd_other (by decide)] at h; exact h)), (kp f0), (kp f1), (fun _ => rfl), (kp f3), (kp f4), (fun h => by
        obtain ⟨A1, c1, e, r5⟩ := f5 (upd_ne h (by decide))
        exact ⟨A1, c1, e, fun h11 => r5 (by rw [upd_other (by decide)] at h11; exact h11)⟩), (fun h => ⟨(f6 (upd_ne h (by decide))).1, upd_mono (f6 (upd_ne h (by decide))).2⟩), (kp f7), (kp f8), (kp f9), (kp f10), (fun h => ⟨(f11 (upd_ne h (by decide))).1, upd_mono (f11 (upd_ne h (by decide))).2⟩), (kp f12), (kp f13)⟩
    · obtain rfl := Option.some.inj ho
      have g2 := f2 (hd ⟨2, .data⟩ (by simp) rfl)
      subst g2
      refine wpOp_step rfl (fun K' hK => ?_)
      go_simp
      refine hK _ _ ?_
      exact ⟨_, _, _, _, _, _, _, _, _, _, _, _, _, rfl, (fun h => I0 (by rw [upd_other (by decide)] at h; exact h)), (kp f0), (kp f1), (kp f2), (fun _ => rfl), (kp f4), (fun h => by
        obtain ⟨A1, c1, e, r5⟩ := f5 (upd_ne h (by decide))
        exact ⟨A1, c1, e, fun h11 => r5 (by rw [upd_other (by decide)] at h11; exact h11)⟩), (fun h => ⟨(f6 (upd_ne h (by decide))).1, upd_mono (f6 (upd_ne h (by decide))).2⟩), (kp f7), (kp f8), (kp f9), (kp f10), (fun h => ⟨(f11 (upd_ne h (by decide))).1, upd_mono (f11 (upd_ne h (by decide))).2⟩), (kp f12), (kp f13)⟩
    · obtain rfl := Option.some.inj ho
      have g1 := f1 (hd ⟨1, .data⟩ (by simp) rfl)
      have g3 := f3 (hd ⟨3, .data⟩ (by simp) rfl)
      subst g1
      subst g3
      refine wpOp_step rfl (fun K' hK => ?_)
      go_simp
      refine hK _ _ ?_
      exact ⟨_, _, _, _, _, _, _, _, _, _, _, _, _, rfl, (fun h => I0 (by rw [upd_other (by decide)] at h; exact h)), (kp f0), (kp f1), (kp f2), (kp f3), (fun _ => rfl), (fun h => by
        obtain ⟨A1, c1, e, r5⟩ := f5 (upd_ne h (by decide))
        exact ⟨A1, c1, e, fun h11 => r5 (by rw [upd_other (by decide)] at h11; exact h11)⟩), (fun h => ⟨(f6 (upd_ne h (by decide))).1, upd_mono (f6 (upd_ne h (by decide))).2⟩), (kp f7), (kp f8), (kp f9), (kp f10), (fun h => ⟨(f11 (upd_ne h (by decide))).1, upd_mono (f11 (upd_ne h (by decide))).2⟩), (kp f12), (kp f13)⟩
    · obtain rfl := Option.some.inj ho
      have g4 := f4 (hd ⟨4, .data⟩ (by simp) rfl)
      subst g4
      have hL11 : L 11 = false := by
        cases e : L 11
        · rfl
        · exact absurd (f11 e).2 (by rw [hL]; decide)
      have J := I0 hL11
      have r7 := (R4.below (J.mono (by omega))).more (B' := ww.heap.size) (by have := J.size; omega)
      refine wpOp_step rfl (fun K' hK => ?_)
      go_simp
      refine (cloneI_any _ _ _ _ ww r7 (by omega)).mono ?_
      rintro e w' ⟨v1, rfl, o1, b5⟩
      obtain ⟨A1, c1, e1, -⟩ := o1.form
      rw [r7.1] at e1
      subst e1
      refine hK _ _ ?_
      exact ⟨_, _, _, _, _, _, _, _, _, _, _, _, _, rfl, (fun _ => J.trans (b5.mono J.size)), (kp f0), (kp f1), (kp f2), (kp f3), (kp f4), (fun _ => ⟨A1, c1, rfl, fun _ => o1.base J.size⟩), (fun h => absurd (f6 (upd_ne h (by decide))).2 (by rw [hL]; decide)), (kp f7), (kp f8), (kp f9), (kp f10), (fun h => absurd (f11 (upd_ne h (by decide))).2 (by rw [hL]; decide)), (kp f12), (kp f13)⟩
    · obtain rfl := Option.some.inj ho
      have g0 := f0 (hd ⟨0, .data⟩ (by simp) rfl)
      have g5 := f5 (hd ⟨5, .data⟩ (by simp) rfl)
      subst g0
      have lq : Hid (L 5 = true) := Lib.hid (hd ⟨5, .data⟩ (by simp) rfl)
      obtain ⟨A1, c1, e5, r5⟩ := g5
      subst e5
      refine wpOp_step rfl (fun K' hK => ?_)
      go_simp
      refine hK _ _ ?_
      exact ⟨_, _, _, _, _, _, _, _, _, _, _, _, _, rfl, (fun h => I0 (by rw [upd_other (by decide)] at h; exact h)), (kp f0), (kp f1), (kp f2), (kp f3), (kp f4), (fun _ => ⟨A1, c1, rfl, fun h11 => r5 (by rw [upd_other (by decide)] at h11; exact h11)⟩), (fun _ => ⟨rfl, upd_mono lq.out⟩), (kp f7), (kp f8), (kp f9), (kp f10), (fun h => ⟨(f11 (upd_ne h (by decide))).1, upd_mono (f11 (upd_ne h (by decide))).2⟩), (kp f12), (kp f13)⟩
    · obtain rfl := Option.some.inj ho
      refine wpOp_step rfl (fun K' hK => ?_)
      go_simp
      refine hK _ _ ?_
      exact ⟨_, _, _, _, _, _, _, _, _, _, _, _, _, rfl, (fun h => I0 (by rw [upd_other (by decide)] at h; exact h)), (kp f0), (kp f1), (kp f2), (kp f3), (kp f4), (fun h => by
        obtain ⟨A1, c1, e, r5⟩ := f5 (upd_ne h (by decide))
        exact ⟨A1, c1, e, fun h11 => r5 (by rw [upd_other (by decide)] at h11; exact h11)⟩), (fun h => ⟨(f6 (upd_ne h (by decide))).1, upd_mono (f6 (upd_ne h (by decide))).2⟩), (fun _ => rfl), (kp f8), (kp f9), (kp f10), (fun h => ⟨(f11 (upd_ne h (by decide))).1, upd_mono (f11 (upd_ne h (by decide))).2⟩), (kp f12), (kp f13)⟩
    · obtain rfl := Option.some.inj ho
      refine wpOp_step rfl (fun K' hK => ?_)
      go_simp
      refine hK _ _ ?_
      exact ⟨_, _, _, _, _, _, _, _, _, _, _, _, _, rfl, (fun h => I0 (by rw [upd_other (by decide)] at h; exact h)), (kp f0), (kp f1), (kp f2), (kp f3), (kp f4), (fun h => by
        obtain ⟨A1, c1, e, r5⟩ := f5 (upd_ne h (by decide))
        exact ⟨A1, c1, e, fun h11 => r5 (by rw [upd_other (by decide)] at h11; exact h11)⟩), (fun h => ⟨(f6 (upd_ne h (by decide))).1, upd_mono (f6 (upd_ne h (by decide))).2⟩), (kp f7), (fun _ => rfl), (kp f9), (kp f10), (fun h => ⟨(f11 (upd_ne h (by decide))).1, upd_mono (f11 (upd_ne h (by decide))).2⟩), (kp f12), (kp f13)⟩
    · obtain rfl := Option.some.inj ho
      have g8 := f8 (hd ⟨8, .data⟩ (by simp) rfl)
      subst g8
      refine wpOp_step rfl (fun K' hK => ?_)
      go_simp
      refine hK _ _ ?_
      exact ⟨_, _, _, _, _, _, _, _, _, _, _, _, _, rfl, (fun h => I0 (by rw [upd_other (by decide)] at h; exact h)), (kp f0), (kp f1), (kp f2), (kp f3), (kp f4), (fun h => by
        obtain ⟨A1, c1, e, r5⟩ := f5 (upd_ne h (by decide))
        exact ⟨A1, c1, e, fun h11 => r5 (by rw [upd_other (by decide)] at h11; exact h11)⟩), (fun h => ⟨(f6 (upd_ne h (by decide))).1, upd_mono (f6 (upd_ne h (by decide))).2⟩), (kp f7), (kp f8), (fun _ => rfl), (kp f10), (fun h => ⟨(f11 (upd_ne h (by decide))).1, upd_mono (f11 (upd_ne h (by decide))).2⟩), (kp f12), (kp f13)⟩
    · obtain rfl := Option.some.inj ho
      have g7 := f7 (hd ⟨7, .data⟩ (by simp) rfl)
      have g9 := f9 (hd ⟨9, .data⟩ (by simp) rfl)
      subst g7
      subst g9
      refine wpOp_step rfl (fun K' hK => ?_)
      go_simp
      refine hK _ _ ?_
      exact ⟨_, _, _, _, _, _, _, _, _, _, _, _, _, rfl, (fun h => I0 (by rw [upd_other (by decide)] at h; exact h)), (kp f0), (kp f1), (kp f2), (kp f3), (kp f4), (fun h => by
        obtain ⟨A1, c1, e, r5⟩ := f5 (upd_ne h (by decide))
        exact ⟨A1, c1, e, fun h11 => r5 (by rw [upd_other (by decide)] at h11; exact h11)⟩), (fun h => ⟨(f6 (upd_ne h (by decide))).1, upd_mono (f6 (upd_ne h (by decide))).2⟩), (kp f7), (kp f8), (kp f9), (fun _ => rfl), (fun h => ⟨(f11 (upd_ne h (by decide))).1, upd_mono (f11 (upd_ne h (by decide))).2⟩), (kp f12), (kp f13)⟩
    · obtain rfl := Option.some.inj ho
      have g6 := f6 (hd ⟨6, .data⟩ (by simp) rfl)
      have J := I0 hL
      have lq : Hid (L 5 = true) := Lib.hid (hd ⟨5, .chain⟩ (by simp) rfl)
      obtain ⟨A1, c1, e5, r5⟩ := f5 lq.out
      obtain ⟨g6, -⟩ := g6
      subst g6
      subst e5
      have o5 := r5 hL
      have q7 := q6.keep J hz6
      have z0 := q7.cell 0
      have z1 := q7.cell 1
      have z2 := q7.cell 2
      simp only [List.getElem?_toArray, List.getElem?_cons_zero, List.getElem?_cons_succ] at z0 z1 z2
      have y0 : ww.frozen? ⟨w.heap.size, 0, none⟩ = false := q7.frozen 0
      have y1 : ww.frozen? ⟨w.heap.size, 1, none⟩ = false := q7.frozen 1
      have y2 : ww.frozen? ⟨w.heap.size, 2, none⟩ = false := q7.frozen 2
      refine wpOp_step rfl (fun K' hK => ?_)
      go_simp
      refine hK _ _ ?_
      exact ⟨_, _, _, _, _, _, _, _, _, _, _, _, _, rfl, (fun h => absurd h (by rw [upd_self]; decide)), (kp f0), (kp f1), (kp f2), (kp f3), (kp f4), (fun _ => ⟨A1, c1, rfl, fun h => absurd h (by rw [upd_self]; decide)⟩), (fun _ => ⟨rfl, upd_mono lq.out⟩), (kp f7), (kp f8), (kp f9), (kp f10), (fun _ => ⟨⟨A1, c1, ww, rfl, rfl, o5, J⟩, upd_mono lq.out⟩), (kp f12), (kp f13)⟩
    · obtain rfl := Option.some.inj ho
      have g10 := f10 (hd ⟨10, .data⟩ (by simp) rfl)
      subst g10
      refine wpOp_step rfl (fun K' hK => ?_)
      go_simp
      refine hK _ _ ?_
      exact ⟨_, _, _, _, _, _, _, _, _, _, _, _, _, rfl, (fun h => I0 (by rw [upd_other (by decide)] at h; exact h)), (kp f0), (kp f1), (kp f2), (kp f3), (kp f4), (fun h => by
        obtain ⟨A1, c1, e, r5⟩ := f5 (upd_ne h (by decide))
        exact ⟨A1, c1, e, fun h11 => r5 (by rw [upd_other (by decide)] at h11; exact h11)⟩), (fun h => ⟨(f6 (upd_ne h (by decide))).1, upd_mono (f6 (upd_ne h (by decide))).2⟩), (kp f7), (kp f8), (kp f9), (kp f10), (fun h => ⟨(f11 (upd_ne h (by decide))).1, upd_mono (f11 (upd_ne h (by decide))).2⟩), (fun _ => rfl), (kp f13)⟩
    · obtain rfl := Option.some.inj ho
      refine wpOp_step rfl (fun K' hK => ?_)
      go_simp
      refine hK _ _ ?_
      exact ⟨_, _, _, _, _, _, _, _, _, _, _, _, _, rfl, (fun h => I0 (by rw [upd_other (by decide)] at h; exact h)), (kp f0), (kp f1), (kp f2), (kp f3), (kp f4), (fun h => by
        obtain ⟨A1, c1, e, r5⟩ := f5 (upd_ne h (by decide))
        exact ⟨A1, c1, e, fun h11 => r5 (by rw [upd_other (by decide)] at h11; exact h11)⟩), (fun h => ⟨(f6 (upd_ne h (by decide))).1, upd_mono (f6 (upd_ne h (by decide))).2⟩), (kp f7), (kp f8), (kp f9), (kp f10), (fun h => ⟨(f11 (upd_ne h (by decide))).1, upd_mono (f11 (upd_ne h (by decide))).2⟩), (kp f12), (fun _ => rfl)⟩
  case hdone =>
    rintro L ac ww hall ⟨t3, t4, t24, t25, t26, t27, t28, t29, t30, t31, t32, t33, t34, rfl, I0, f0, f1, f2, f3, f4, f5, f6, f7, f8, f9, f10, f11, f12, f13⟩
    have e0 := f0 (hall 0 (by decide))
    have e1 := f1 (hall 1 (by decide))
    have e2 := f2 (hall 2 (by decide))
    have e3 := f3 (hall 3 (by decide))
    have e4 := f4 (hall 4 (by decide))
    have e5 := f5 (hall 5 (by decide))
    have e6 := f6 (hall 6 (by decide))
    have e7 := f7 (hall 7 (by decide))
    have e8 := f8 (hall 8 (by decide))
    have e9 := f9 (hall 9 (by decide))
    have e10 := f10 (hall 10 (by decide))
    have e11 := f11 (hall 11 (by decide))
    have e12 := f12 (hall 12 (by decide))
    have e13 := f13 (hall 13 (by decide))
    clear f0 f1 f2 f3 f4 f5 f6 f7 f8 f9 f10 f11 f12 f13
    obtain ⟨⟨A1, c1, wp, rfl, rfl, o5, J⟩, -⟩ := e11
    subst e12 e13
    have hzp := J.size
    have q7 := (((q6.keep J hz6).put 0 (.bool true)).put 1 (.int .i64 x)).put 2 (.slice A1 r c1)
    have keep : ∀ (W : World) (i : Nat) (u v : Value) (ys : List Int), OwnI W w6.heap.size v ys → OwnI (W.setCell ⟨w.heap.size, i, none⟩ u) w6.heap.size v ys := fun W i u v ys ho => ho.far (put_any W w.heap.size i u) (.inr fun e => by
      have := (World.ownsRow.lt ho _ e).1
      omega)
    have O := keep _ 2 (.slice A1 r c1) _ _ (keep _ 1 (.int .i64 x) _ _ (keep _ 0 (.bool true) _ _ o5))
    have BB := (((b6.trans (J.mono (by omega))).setCell (p := ⟨w.heap.size, 0, none⟩) (by simp) (.bool true)).setCell (p := ⟨w.heap.size, 1, none⟩) (by simp) (.int .i64 x)).setCell (p := ⟨w.heap.size, 2, none⟩) (by simp) (.slice A1 r c1)
    have z0 := q7.cell 0
    have z1 := q7.cell 1
    have z2 := q7.cell 2
    simp only [List.setIfInBounds_toArray, List.set_cons_zero, List.set_cons_succ, List.getElem?_toArray, List.getElem?_cons_zero, List.getElem?_cons_succ] at z0 z1 z2
    have R3 : IS (((wp.setCell ⟨w.heap.size, 0, none⟩ (.bool true)).setCell ⟨w.heap.size, 1, none⟩ (.int .i64 x)).setCell ⟨w.heap.size, 2, none⟩ (.slice A1 r c1)) B A5 (n - (2 + r)) (xs.drop (2 + r)) := by
      have h2 : Below w.heap.size wp (((wp.setCell ⟨w.heap.size, 0, none⟩ (.bool true)).setCell ⟨w.heap.size, 1, none⟩ (.int .i64 x)).setCell ⟨w.heap.size, 2, none⟩ (.slice A1 r c1)) := (((Below.refl w.heap.size wp).setCell (p := ⟨w.heap.size, 0, none⟩) (by simp) (.bool true)).setCell (p := ⟨w.heap.size, 1, none⟩) (by simp) (.int .i64 x)).setCell (p := ⟨w.heap.size, 2, none⟩) (by simp) (.slice A1 r c1)
      exact (R5.below (J.mono (by omega))).below (h2.mono hB)
    clear I0 e0 e1 e2 e3 e4 e5 e6 e7 e8 e9 e10 hall keep q7 J
    go_wp2_with fail
    exact bodyPost_ret (v := .tuple #[.agg #[.bool true, .int .i64 x, .slice A1 r c1], .slice A5 (n - (2 + r)) (c - (2 + r)), .bool true]) (by simp [results, Try.results124, go_sem, *]) rfl ⟨_, _, _, _, rfl, O.base (by omega), R3, by omega, BB⟩
end Go.Proofs.Ytmjejcfifkbkoaa
