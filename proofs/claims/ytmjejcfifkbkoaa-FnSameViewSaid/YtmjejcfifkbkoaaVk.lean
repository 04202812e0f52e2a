/- What the model's CopyHeap and SlideHeap return: for every heap. No conditions. -/
import Derived.Test.YtmjejcfifkbkoaaVl
namespace Go.Proofs.Ytmjejcfifkbkoaa
open Go.RowKit
set_option maxRecDepth 100000

set_option maxHeartbeats 4000000 in
theorem mCopyHeap_any (A R : Option Addr) (n c m d : Nat) (h : Hp) (w : World) (hs : HS w w.heap.size A n R m h) (hn : n ≤ 1099511627776) (hm : m ≤ 1099511627776) :
    Calls Try.prog 74 #[heapV A n c R m d] w (GaveH w (Hps.copyH h)) := by
  have hlc := hs.cells.1
  have hlr := hs.roots.1
  have b0 : Below w.heap.size w ((w.alloc (.cells #[.slice A n c, .slice R m d] 28)).alloc (.cells #[.slice none 0 0, .slice none 0 0] 28)) := ((Below.refl _ _).alloc (Nat.le_refl _) _).alloc (by simp) _
  have r0 := hs.up b0
  have q0 := (Rw.new w 28 #[.slice A n c, .slice R m d]).alloc (.cells #[.slice none 0 0, .slice none 0 0] 28)
  have q1 := Rw.new (w.alloc (.cells #[.slice A n c, .slice R m d] 28)) 28 #[.slice none 0 0, .slice none 0 0]
  rw [World.size_alloc] at q1
  cases hv : Hps.validH h
  · have HR := Lib.hid (show Hps.copyH h = ⟨[], []⟩ by rw [Hps.copyH, hv]; rfl)
    have HV := Lib.hid hv
    clear hv
    go_enter Try.func74, Try.ntmps74
    go_wp2_with fail
    refine (mHeapValid_any _ _ _ _ _ _ h _ r0 hn hm).mono ?_
    rw [HV.out]
    rintro e w1 ⟨rfl, b1⟩
    have bb1 := b0.trans (b1.mono b0.size)
    have q3 := q1.keep b1 q1.lt
    have r2 : w1.frozen? ⟨w.heap.size + 1, 0, none⟩ = false := q3.frozen 0
    have r3 : w1.frozen? ⟨w.heap.size + 1, 1, none⟩ = false := q3.frozen 1
    have r4 : w1.cell? ⟨w.heap.size + 1, 0, none⟩ = some (.slice none 0 0) := q3.cell 0
    have r5 : w1.cell? ⟨w.heap.size + 1, 1, none⟩ = some (.slice none 0 0) := q3.cell 1
    have r6 : ((w1.setCell ⟨w.heap.size + 1, 0, none⟩ (.slice none 0 0)).setCell ⟨w.heap.size + 1, 1, none⟩ (.slice none 0 0)).cell? ⟨w.heap.size + 1, 0, none⟩ = some (.slice none 0 0) := ((q3.put 0 (.slice none 0 0)).put 1 (.slice none 0 0)).cell 0
    have r7 : ((w1.setCell ⟨w.heap.size + 1, 0, none⟩ (.slice none 0 0)).setCell ⟨w.heap.size + 1, 1, none⟩ (.slice none 0 0)).cell? ⟨w.heap.size + 1, 1, none⟩ = some (.slice none 0 0) := ((q3.put 0 (.slice none 0 0)).put 1 (.slice none 0 0)).cell 1
    have BB := (bb1.setCell (p := ⟨w.heap.size + 1, 0, none⟩) (Nat.le_succ _) (.slice none 0 0)).setCell (p := ⟨w.heap.size + 1, 1, none⟩) (Nat.le_succ _) (.slice none 0 0)
    clear q0 q1 q3
    go_wp2_with fail
    exact bodyPost_ret (v := .agg #[.slice none 0 0, .slice none 0 0]) (by simp [results, Try.results74, go_sem, *]) rfl ⟨_, _, rfl, by rw [HR.out]; exact own_zeroH _ _ BB.size, BB⟩
  have HR := Lib.hid (show Hps.copyH h = Hps.moveH h (Hps.orderH h) by rw [Hps.copyH, if_pos hv])
  have HV := Lib.hid hv
  have HLV := Lib.hid (Hps.lives_order hv)
  obtain ⟨s1, s2, s3⟩ := Hps.valid_small hv
  have HRF := Lib.hid (Hps.valid_refs hv)
  have HRO := Lib.hid (Hps.valid_iff.1 hv).2.2.2
  have HS3 := Lib.hid s3
  have HOV := Lib.hid (Hps.order_valid hv)
  clear hv s3
  go_enter Try.func74, Try.ntmps74
  go_wp2_with fail
  refine (mHeapValid_any _ _ _ _ _ _ h _ r0 hn hm).mono ?_
  rw [HV.out]
  rintro e w1 ⟨rfl, b1⟩
  have bb1 := b0.trans (b1.mono b0.size)
  have r1 := r0.up b1
  have k0 := q0.keep b1 q0.lt
  have k1 := q1.keep b1 q1.lt
  have z0 : w1.cell? ⟨w.heap.size, 0, none⟩ = some (.slice A n c) := k0.cell 0
  have z1 : w1.cell? ⟨w.heap.size, 1, none⟩ = some (.slice R m d) := k0.cell 1
  have hl0 := k0.lt
  have hl1 := k1.lt
  clear r0 q0 q1 b0 b1
  go_upto_region 3 with fail
  refine wp_region_inv (by kernel_rfl) (by kernel_rfl) (fun L ac ww => ∃ t7 t8 t9 t10 : Value, ac = { tmps := #[heapV A n c R m d, Value.pointer (some { block := w.heap.size, off := 0 }), Value.pointer (some { block := w.heap.size + 1, off := 0 }), Value.agg #[Value.slice A n c, Value.slice R m d], Value.bool true, Value.bool false, undef, t7, t8, t9, t10], defers := [] } ∧ (L 4 = false → Below w1.heap.size w1 ww) ∧ (L 3 = true → L 2 = true) ∧ (L 0 = true → t7 = .agg #[.slice A n c, .slice R m d]) ∧ (L 1 = true → t8 = .agg #[.slice A n c, .slice R m d]) ∧ (L 2 = true → ∃ AO no co, t9 = .slice AO no co ∧ (L 4 = false → IS ww ww.heap.size AO no (Hps.orderH h))) ∧ (L 3 = true → ∃ Ac nc cc Ar nr cr, t10 = .agg #[.slice Ac nc cc, .slice Ar nr cr] ∧ (L 4 = false → OwnH ww w1.heap.size (.slice Ac nc cc) (.slice Ar nr cr) (Hps.moveH h (Hps.orderH h)))) ∧ (L 4 = true → (∀ p, p < 4 → L p = true) ∧ ∃ Ac nc cc Ar nr cr wp, t10 = .agg #[.slice Ac nc cc, .slice Ar nr cr] ∧ ww = (wp.setCell ⟨w.heap.size + 1, 0, none⟩ (.slice Ac nc cc)).setCell ⟨w.heap.size + 1, 1, none⟩ (.slice Ar nr cr) ∧ OwnH wp w1.heap.size (.slice Ac nc cc) (.slice Ar nr cr) (Hps.moveH h (Hps.orderH h)) ∧ Below w1.heap.size w1 wp)) ?h0 ?hstep ?hdone
  case h0 => exact ⟨_, _, _, _, rfl, fun _ => (Below.refl _ _).drew, fun h => absurd h Bool.false_ne_true, (fun h => absurd h Bool.false_ne_true), (fun h => absurd h Bool.false_ne_true), (fun h => absurd h Bool.false_ne_true), (fun h => absurd h Bool.false_ne_true), (fun h => absurd h Bool.false_ne_true)⟩
  case hstep =>
    rintro L ac ww i o ho hL hd ⟨t7, t8, t9, t10, rfl, I0, I1, f0, f1, f2, f3, f4⟩
    have hi : i < 5 := (Array.getElem?_eq_some_iff.1 ho).1
    obtain rfl | rfl | rfl | rfl | rfl : i = 0 ∨ i = 1 ∨ i = 2 ∨ i = 3 ∨ i = 4 := by omega
    · obtain rfl := Option.some.inj ho
      have hL4 : L 4 = false := by
        cases e : L 4
        · rfl
        · exact absurd ((f4 e).1 0 (by decide)) (by rw [hL]; decide)
      have J := I0 hL4
      have y0 := (J.cell (p := ⟨w.heap.size, 0, none⟩) hl0).trans z0
      have y1 := (J.cell (p := ⟨w.heap.size, 1, none⟩) hl0).trans z1
      refine wpOp_step rfl (fun K' hK => ?_)
      go_simp
      refine hK _ _ ?_
      exact ⟨_, _, _, _, rfl, (fun _ => J), (fun h => upd_mono (I1 (upd_ne h (by decide)))), (fun _ => rfl), (kp f1), (fun h => by
        obtain ⟨AO, no, co, e, r⟩ := f2 (upd_ne h (by decide))
        exact ⟨AO, no, co, e, fun h4 => r (by rw [upd_other (by decide)] at h4; exact h4)⟩), (fun h => by
        obtain ⟨Ac, nc, cc, Ar, nr, cr, e, r⟩ := f3 (upd_ne h (by decide))
        exact ⟨Ac, nc, cc, Ar, nr, cr, e, fun h4 => r (by rw [upd_other (by decide)] at h4; exact h4)⟩), (fun h => absurd ((f4 (upd_ne h (by decide))).1 0 (by decide)) (by rw [hL]; decide))⟩
    · obtain rfl := Option.some.inj ho
      have hL4 : L 4 = false := by
        cases e : L 4
        · rfl
        · exact absurd ((f4 e).1 1 (by decide)) (by rw [hL]; decide)
      have J := I0 hL4
      have y0 := (J.cell (p := ⟨w.heap.size, 0, none⟩) hl0).trans z0
      have y1 := (J.cell (p := ⟨w.heap.size, 1, none⟩) hl0).trans z1
      refine wpOp_step rfl (fun K' hK => ?_)
      go_simp
      refine hK _ _ ?_
      exact ⟨_, _, _, _, rfl, (fun _ => J), (fun h => upd_mono (I1 (upd_ne h (by decide)))), (kp f0), (fun _ => rfl), (fun h => by
        obtain ⟨AO, no, co, e, r⟩ := f2 (upd_ne h (by decide))
        exact ⟨AO, no, co, e, fun h4 => r (by rw [upd_other (by decide)] at h4; exact h4)⟩), (fun h => by
        obtain ⟨Ac, nc, cc, Ar, nr, cr, e, r⟩ := f3 (upd_ne h (by decide))
        exact ⟨Ac, nc, cc, Ar, nr, cr, e, fun h4 => r (by rw [upd_other (by decide)] at h4; exact h4)⟩), (fun h => absurd ((f4 (upd_ne h (by decide))).1 1 (by decide)) (by rw [hL]; decide))⟩
    · obtain rfl := Option.some.inj ho
      have g1 := f1 (hd ⟨1, .data⟩ (by simp) rfl)
      subst g1
      have hL4 : L 4 = false := by
        cases e : L 4
        · rfl
        · exact absurd ((f4 e).1 2 (by decide)) (by rw [hL]; decide)
      have J := I0 hL4
      refine wpOp_step rfl (fun K' hK => ?_)
      go_simp
      refine (l9Order_any _ _ _ _ _ _ h ww (r1.up J) (by omega) (by omega) HRO.out HRF.out (fun cl hcl => by have := HS3.out cl hcl; omega)).mono ?_
      rintro e w' ⟨v2, rfl, o2, b2⟩
      rw [← HOV.out] at o2
      obtain ⟨AO, co, rfl, -⟩ := o2.form
      refine hK _ _ ?_
      exact ⟨_, _, _, _, rfl, (fun _ => J.trans (b2.mono J.size)), (fun h => upd_mono (I1 (upd_ne h (by decide)))), (kp f0), (kp f1), (fun _ => ⟨AO, _, co, rfl, fun _ => o2.reads⟩), (fun h => absurd (I1 (upd_ne h (by decide))) (by rw [hL]; decide)), (fun h => absurd ((f4 (upd_ne h (by decide))).1 2 (by decide)) (by rw [hL]; decide))⟩
    · obtain rfl := Option.some.inj ho
      have g0 := f0 (hd ⟨0, .data⟩ (by simp) rfl)
      have g2 := f2 (hd ⟨2, .data⟩ (by simp) rfl)
      subst g0
      have hL4 : L 4 = false := by
        cases e : L 4
        · rfl
        · exact absurd ((f4 e).1 3 (by decide)) (by rw [hL]; decide)
      have J := I0 hL4
      have l2 := Lib.hid (hd ⟨2, .data⟩ (by simp) rfl)
      obtain ⟨AO, no, co, e2, r2⟩ := g2
      subst e2
      refine wpOp_step rfl (fun K' hK => ?_)
      go_simp
      refine (l15Move_any _ _ _ _ _ _ _ _ _ h (Hps.orderH h) ww (r1.up J) (r2 hL4) HV.out HLV.out).mono ?_
      rintro e w' ⟨vc, vr, rfl, ow, b2⟩
      obtain ⟨Ac, nc, cc, Ar, nr, cr, rfl, rfl⟩ := ow.slices
      refine hK _ _ ?_
      exact ⟨_, _, _, _, rfl, (fun _ => J.trans (b2.mono J.size)), (fun _ => upd_mono l2.out), (kp f0), (kp f1), (fun _ => ⟨AO, no, co, rfl, fun _ => (r2 hL4).up b2⟩), (fun _ => ⟨Ac, nc, cc, Ar, nr, cr, rfl, fun _ => ow.base J.size⟩), (fun h => absurd ((f4 (upd_ne h (by decide))).1 3 (by decide)) (by rw [hL]; decide))⟩
    · obtain rfl := Option.some.inj ho
      have g3 := f3 (hd ⟨3, .data⟩ (by simp) rfl)
      have lq : Hid (∀ p, p < 4 → L p = true) := Lib.hid (by
        intro p hp
        obtain rfl | rfl | rfl | rfl : p = 0 ∨ p = 1 ∨ p = 2 ∨ p = 3 := by omega
        · exact hd ⟨0, .phase⟩ (by simp) rfl
        · exact hd ⟨1, .phase⟩ (by simp) rfl
        · exact hd ⟨2, .phase⟩ (by simp) rfl
        · exact hd ⟨3, .phase⟩ (by simp) rfl)
      have J := I0 hL
      obtain ⟨Ac, nc, cc, Ar, nr, cr, e3, r3⟩ := g3
      subst e3
      have ow := r3 hL
      have q7 := k1.keep J hl1
      have y0 := q7.cell 0
      have y1 := q7.cell 1
      simp only [List.getElem?_toArray, List.getElem?_cons_zero, List.getElem?_cons_succ] at y0 y1
      have u0 : ww.frozen? ⟨w.heap.size + 1, 0, none⟩ = false := q7.frozen 0
      have u1 : ww.frozen? ⟨w.heap.size + 1, 1, none⟩ = false := q7.frozen 1
      refine wpOp_step rfl (fun K' hK => ?_)
      go_simp
      refine hK _ _ ?_
      exact ⟨_, _, _, _, rfl, (fun h => absurd h (by rw [upd_self]; decide)), (fun h => upd_mono (I1 (upd_ne h (by decide)))), (kp f0), (kp f1), (fun h => by
        obtain ⟨AO, no, co, e, r⟩ := f2 (upd_ne h (by decide))
        exact ⟨AO, no, co, e, fun h4 => absurd h4 (by rw [upd_self]; decide)⟩), (fun _ => ⟨Ac, nc, cc, Ar, nr, cr, rfl, fun h => absurd h (by rw [upd_self]; decide)⟩), (fun _ => ⟨fun p hp => upd_mono (lq.out p hp), Ac, nc, cc, Ar, nr, cr, ww, rfl, rfl, ow, J⟩)⟩
  case hdone =>
    rintro L ac ww hall ⟨t7, t8, t9, t10, rfl, I0, I1, f0, f1, f2, f3, f4⟩
    have e0 := f0 (hall 0 (by decide))
    have e1 := f1 (hall 1 (by decide))
    have e2 := f2 (hall 2 (by decide))
    have e3 := f3 (hall 3 (by decide))
    have e4 := f4 (hall 4 (by decide))
    clear f0 f1 f2 f3 f4
    obtain ⟨-, Ac, nc, cc, Ar, nr, cr, wp, rfl, rfl, ow, J⟩ := e4
    have q7 := ((k1.keep J hl1).put 0 (.slice Ac nc cc)).put 1 (.slice Ar nr cr)
    have y0 := q7.cell 0
    have y1 := q7.cell 1
    simp only [List.setIfInBounds_toArray, List.set_cons_zero, List.set_cons_succ, List.getElem?_toArray, List.getElem?_cons_zero, List.getElem?_cons_succ] at y0 y1
    have D := Lib.hid (OwnH.out (w := w) (g := w.heap.size + 1) ow hl1 (bb1.trans (J.mono bb1.size)) (Nat.le_succ _))
    clear I0 I1 e0 e1 e2 e3 hall q7 J ow k0 k1 r1
    go_wp2_with fail
    exact bodyPost_ret (v := .agg #[.slice Ac nc cc, .slice Ar nr cr]) (by simp [results, Try.results74, go_sem, *]) rfl ⟨_, _, rfl, by rw [HR.out]; exact D.out.1, D.out.2⟩

set_option maxHeartbeats 4000000 in
theorem mSlideHeap_any (A R : Option Addr) (n c m d : Nat) (h : Hp) (w : World) (hs : HS w w.heap.size A n R m h) (hn : n ≤ 1099511627776) (hm : m ≤ 1099511627776) :
    Calls Try.prog 75 #[heapV A n c R m d] w (GaveH w (Hps.slideH h)) := by
  have hlc := hs.cells.1
  have hlr := hs.roots.1
  have b0 : Below w.heap.size w ((w.alloc (.cells #[.slice A n c, .slice R m d] 28)).alloc (.cells #[.slice none 0 0, .slice none 0 0] 28)) := ((Below.refl _ _).alloc (Nat.le_refl _) _).alloc (by simp) _
  have r0 := hs.up b0
  have q0 := (Rw.new w 28 #[.slice A n c, .slice R m d]).alloc (.cells #[.slice none 0 0, .slice none 0 0] 28)
  have q1 := Rw.new (w.alloc (.cells #[.slice A n c, .slice R m d] 28)) 28 #[.slice none 0 0, .slice none 0 0]
  rw [World.size_alloc] at q1
  cases hv : Hps.validH h
  · have HR := Lib.hid (show Hps.slideH h = ⟨[], []⟩ by rw [Hps.slideH, hv]; rfl)
    have HV := Lib.hid hv
    clear hv
    go_enter Try.func75, Try.ntmps75
    go_wp2_with fail
    refine (mHeapValid_any _ _ _ _ _ _ h _ r0 hn hm).mono ?_
    rw [HV.out]
    rintro e w1 ⟨rfl, b1⟩
    have bb1 := b0.trans (b1.mono b0.size)
    have q3 := q1.keep b1 q1.lt
    have r2 : w1.frozen? ⟨w.heap.size + 1, 0, none⟩ = false := q3.frozen 0
    have r3 : w1.frozen? ⟨w.heap.size + 1, 1, none⟩ = false := q3.frozen 1
    have r4 : w1.cell? ⟨w.heap.size + 1, 0, none⟩ = some (.slice none 0 0) := q3.cell 0
    have r5 : w1.cell? ⟨w.heap.size + 1, 1, none⟩ = some (.slice none 0 0) := q3.cell 1
    have r6 : ((w1.setCell ⟨w.heap.size + 1, 0, none⟩ (.slice none 0 0)).setCell ⟨w.heap.size + 1, 1, none⟩ (.slice none 0 0)).cell? ⟨w.heap.size + 1, 0, none⟩ = some (.slice none 0 0) := ((q3.put 0 (.slice none 0 0)).put 1 (.slice none 0 0)).cell 0
    have r7 : ((w1.setCell ⟨w.heap.size + 1, 0, none⟩ (.slice none 0 0)).setCell ⟨w.heap.size + 1, 1, none⟩ (.slice none 0 0)).cell? ⟨w.heap.size + 1, 1, none⟩ = some (.slice none 0 0) := ((q3.put 0 (.slice none 0 0)).put 1 (.slice none 0 0)).cell 1
    have BB := (bb1.setCell (p := ⟨w.heap.size + 1, 0, none⟩) (Nat.le_succ _) (.slice none 0 0)).setCell (p := ⟨w.heap.size + 1, 1, none⟩) (Nat.le_succ _) (.slice none 0 0)
    clear q0 q1 q3
    go_wp2_with fail
    exact bodyPost_ret (v := .agg #[.slice none 0 0, .slice none 0 0]) (by simp [results, Try.results75, go_sem, *]) rfl ⟨_, _, rfl, by rw [HR.out]; exact own_zeroH _ _ BB.size, BB⟩
  have HR := Lib.hid (show Hps.slideH h = Hps.moveH h (Hps.slideL h) by rw [Hps.slideH, if_pos hv])
  have HV := Lib.hid hv
  have HLV := Lib.hid (Hps.lives_slide hv)
  obtain ⟨s1, s2, s3⟩ := Hps.valid_small hv
  have HRF := Lib.hid (Hps.valid_refs hv)
  have HRO := Lib.hid (Hps.valid_iff.1 hv).2.2.2
  have HS3 := Lib.hid s3
  have HOV := Lib.hid (Hps.order_valid hv)
  clear hv s3
  go_enter Try.func75, Try.ntmps75
  go_wp2_with fail
  refine (mHeapValid_any _ _ _ _ _ _ h _ r0 hn hm).mono ?_
  rw [HV.out]
  rintro e w1 ⟨rfl, b1⟩
  have bb1 := b0.trans (b1.mono b0.size)
  have r1 := r0.up b1
  have k0 := q0.keep b1 q0.lt
  have k1 := q1.keep b1 q1.lt
  have z0 : w1.cell? ⟨w.heap.size, 0, none⟩ = some (.slice A n c) := k0.cell 0
  have z1 : w1.cell? ⟨w.heap.size, 1, none⟩ = some (.slice R m d) := k0.cell 1
  have hl0 := k0.lt
  have hl1 := k1.lt
  clear r0 q0 q1 b0 b1
  go_upto_region 3 with fail
  refine wp_region_inv (by kernel_rfl) (by kernel_rfl) (fun L ac ww => ∃ t7 t8 t9 t10 : Value, ac = { tmps := #[heapV A n c R m d, Value.pointer (some { block := w.heap.size, off := 0 }), Value.pointer (some { block := w.heap.size + 1, off := 0 }), Value.agg #[Value.slice A n c, Value.slice R m d], Value.bool true, Value.bool false, undef, t7, t8, t9, t10], defers := [] } ∧ (L 4 = false → Below w1.heap.size w1 ww) ∧ (L 3 = true → L 2 = true) ∧ (L 0 = true → t7 = .agg #[.slice A n c, .slice R m d]) ∧ (L 1 = true → t8 = .agg #[.slice A n c, .slice R m d]) ∧ (L 2 = true → ∃ AO no co, t9 = .slice AO no co ∧ (L 4 = false → IS ww ww.heap.size AO no (Hps.slideL h))) ∧ (L 3 = true → ∃ Ac nc cc Ar nr cr, t10 = .agg #[.slice Ac nc cc, .slice Ar nr cr] ∧ (L 4 = false → OwnH ww w1.heap.size (.slice Ac nc cc) (.slice Ar nr cr) (Hps.moveH h (Hps.slideL h)))) ∧ (L 4 = true → (∀ p, p < 4 → L p = true) ∧ ∃ Ac nc cc Ar nr cr wp, t10 = .agg #[.slice Ac nc cc, .slice Ar nr cr] ∧ ww = (wp.setCell ⟨w.heap.size + 1, 0, none⟩ (.slice Ac nc cc)).setCell ⟨w.heap.size + 1, 1, none⟩ (.slice Ar nr cr) ∧ OwnH wp w1.heap.size (.slice Ac nc cc) (.slice Ar nr cr) (Hps.moveH h (Hps.slideL h)) ∧ Below w1.heap.size w1 wp)) ?h0 ?hstep ?hdone
  case h0 => exact ⟨_, _, _, _, rfl, fun _ => (Below.refl _ _).drew, fun h => absurd h Bool.false_ne_true, (fun h => absurd h Bool.false_ne_true), (fun h => absurd h Bool.false_ne_true), (fun h => absurd h Bool.false_ne_true), (fun h => absurd h Bool.false_ne_true), (fun h => absurd h Bool.false_ne_true)⟩
  case hstep =>
    rintro L ac ww i o ho hL hd ⟨t7, t8, t9, t10, rfl, I0, I1, f0, f1, f2, f3, f4⟩
    have hi : i < 5 := (Array.getElem?_eq_some_iff.1 ho).1
    obtain rfl | rfl | rfl | rfl | rfl : i = 0 ∨ i = 1 ∨ i = 2 ∨ i = 3 ∨ i = 4 := by omega
    · obtain rfl := Option.some.inj ho
      have hL4 : L 4 = false := by
        cases e : L 4
        · rfl
        · exact absurd ((f4 e).1 0 (by decide)) (by rw [hL]; decide)
      have J := I0 hL4
      have y0 := (J.cell (p := ⟨w.heap.size, 0, none⟩) hl0).trans z0
      have y1 := (J.cell (p := ⟨w.heap.size, 1, none⟩) hl0).trans z1
      refine wpOp_step rfl (fun K' hK => ?_)
      go_simp
      refine hK _ _ ?_
      exact ⟨_, _, _, _, rfl, (fun _ => J), (fun h => upd_mono (I1 (upd_ne h (by decide)))), (fun _ => rfl), (kp f1), (fun h => by
        obtain ⟨AO, no, co, e, r⟩ := f2 (upd_ne h (by decide))
        exact ⟨AO, no, co, e, fun h4 => r (by rw [upd_other (by decide)] at h4; exact h4)⟩), (fun h => by
        obtain ⟨Ac, nc, cc, Ar, nr, cr, e, r⟩ := f3 (upd_ne h (by decide))
        exact ⟨Ac, nc, cc, Ar, nr, cr, e, fun h4 => r (by rw [upd_other (by decide)] at h4; exact h4)⟩), (fun h => absurd ((f4 (upd_ne h (by decide))).1 0 (by decide)) (by rw [hL]; decide))⟩
    · obtain rfl := Option.some.inj ho
      have hL4 : L 4 = false := by
        cases e : L 4
        · rfl
        · exact absurd ((f4 e).1 1 (by decide)) (by rw [hL]; decide)
      have J := I0 hL4
      have y0 := (J.cell (p := ⟨w.heap.size, 0, none⟩) hl0).trans z0
      have y1 := (J.cell (p := ⟨w.heap.size, 1, none⟩) hl0).trans z1
      refine wpOp_step rfl (fun K' hK => ?_)
      go_simp
      refine hK _ _ ?_
      exact ⟨_, _, _, _, rfl, (fun _ => J), (fun h => upd_mono (I1 (upd_ne h (by decide)))), (kp f0), (fun _ => rfl), (fun h => by
        obtain ⟨AO, no, co, e, r⟩ := f2 (upd_ne h (by decide))
        exact ⟨AO, no, co, e, fun h4 => r (by rw [upd_other (by decide)] at h4; exact h4)⟩), (fun h => by
        obtain ⟨Ac, nc, cc, Ar, nr, cr, e, r⟩ := f3 (upd_ne h (by decide))
        exact ⟨Ac, nc, cc, Ar, nr, cr, e, fun h4 => r (by rw [upd_other (by decide)] at h4; exact h4)⟩), (fun h => absurd ((f4 (upd_ne h (by decide))).1 1 (by decide)) (by rw [hL]; decide))⟩
    · obtain rfl := Option.some.inj ho
      have g1 := f1 (hd ⟨1, .data⟩ (by simp) rfl)
      subst g1
      have hL4 : L 4 = false := by
        cases e : L 4
        · rfl
        · exact absurd ((f4 e).1 2 (by decide)) (by rw [hL]; decide)
      have J := I0 hL4
      refine wpOp_step rfl (fun K' hK => ?_)
      go_simp
      refine (l16Order_any _ _ _ _ _ _ h ww (r1.up J) HV.out).mono ?_
      rintro e w' ⟨v2, rfl, o2, b2⟩
      obtain ⟨AO, co, rfl, -⟩ := o2.form
      refine hK _ _ ?_
      exact ⟨_, _, _, _, rfl, (fun _ => J.trans (b2.mono J.size)), (fun h => upd_mono (I1 (upd_ne h (by decide)))), (kp f0), (kp f1), (fun _ => ⟨AO, _, co, rfl, fun _ => o2.reads⟩), (fun h => absurd (I1 (upd_ne h (by decide))) (by rw [hL]; decide)), (fun h => absurd ((f4 (upd_ne h (by decide))).1 2 (by decide)) (by rw [hL]; decide))⟩
    · obtain rfl := Option.some.inj ho
      have g0 := f0 (hd ⟨0, .data⟩ (by simp) rfl)
      have g2 := f2 (hd ⟨2, .data⟩ (by simp) rfl)
      subst g0
      have hL4 : L 4 = false := by
        cases e : L 4
        · rfl
        · exact absurd ((f4 e).1 3 (by decide)) (by rw [hL]; decide)
      have J := I0 hL4
      have l2 := Lib.hid (hd ⟨2, .data⟩ (by simp) rfl)
      obtain ⟨AO, no, co, e2, r2⟩ := g2
      subst e2
      refine wpOp_step rfl (fun K' hK => ?_)
      go_simp
      refine (l15Move_any _ _ _ _ _ _ _ _ _ h (Hps.slideL h) ww (r1.up J) (r2 hL4) HV.out HLV.out).mono ?_
      rintro e w' ⟨vc, vr, rfl, ow, b2⟩
      obtain ⟨Ac, nc, cc, Ar, nr, cr, rfl, rfl⟩ := ow.slices
      refine hK _ _ ?_
      exact ⟨_, _, _, _, rfl, (fun _ => J.trans (b2.mono J.size)), (fun _ => upd_mono l2.out), (kp f0), (kp f1), (fun _ => ⟨AO, no, co, rfl, fun _ => (r2 hL4).up b2⟩), (fun _ => ⟨Ac, nc, cc, Ar, nr, cr, rfl, fun _ => ow.base J.size⟩), (fun h => absurd ((f4 (upd_ne h (by decide))).1 3 (by decide)) (by rw [hL]; decide))⟩
    · obtain rfl := Option.some.inj ho
      have g3 := f3 (hd ⟨3, .data⟩ (by simp) rfl)
      have lq : Hid (∀ p, p < 4 → L p = true) := Lib.hid (by
        intro p hp
        obtain rfl | rfl | rfl | rfl : p = 0 ∨ p = 1 ∨ p = 2 ∨ p = 3 := by omega
        · exact hd ⟨0, .phase⟩ (by simp) rfl
        · exact hd ⟨1, .phase⟩ (by simp) rfl
        · exact hd ⟨2, .phase⟩ (by simp) rfl
        · exact hd ⟨3, .phase⟩ (by simp) rfl)
      have J := I0 hL
      obtain ⟨Ac, nc, cc, Ar, nr, cr, e3, r3⟩ := g3
      subst e3
      have ow := r3 hL
      have q7 := k1.keep J hl1
      have y0 := q7.cell 0
      have y1 := q7.cell 1
      simp only [List.getElem?_toArray, List.getElem?_cons_zero, List.getElem?_cons_succ] at y0 y1
      have u0 : ww.frozen? ⟨w.heap.size + 1, 0, none⟩ = false := q7.frozen 0
      have u1 : ww.frozen? ⟨w.heap.size + 1, 1, none⟩ = false := q7.frozen 1
      refine wpOp_step rfl (fun K' hK => ?_)
      go_simp
      refine hK _ _ ?_
      exact ⟨_, _, _, _, rfl, (fun h => absurd h (by rw [upd_self]; decide)), (fun h => upd_mono (I1 (upd_ne h (by decide)))), (kp f0), (kp f1), (fun h => by
        obtain ⟨AO, no, co, e, r⟩ := f2 (upd_ne h (by decide))
        exact ⟨AO, no, co, e, fun h4 => absurd h4 (by rw [upd_self]; decide)⟩), (fun _ => ⟨Ac, nc, cc, Ar, nr, cr, rfl, fun h => absurd h (by rw [upd_self]; decide)⟩), (fun _ => ⟨fun p hp => upd_mono (lq.out p hp), Ac, nc, cc, Ar, nr, cr, ww, rfl, rfl, ow, J⟩)⟩
  case hdone =>
    rintro L ac ww hall ⟨t7, t8, t9, t10, rfl, I0, I1, f0, f1, f2, f3, f4⟩
    have e0 := f0 (hall 0 (by decide))
    have e1 := f1 (hall 1 (by decide))
    have e2 := f2 (hall 2 (by decide))
    have e3 := f3 (hall 3 (by decide))
    have e4 := f4 (hall 4 (by decide))
    clear f0 f1 f2 f3 f4
    obtain ⟨-, Ac, nc, cc, Ar, nr, cr, wp, rfl, rfl, ow, J⟩ := e4
    have q7 := ((k1.keep J hl1).put 0 (.slice Ac nc cc)).put 1 (.slice Ar nr cr)
    have y0 := q7.cell 0
    have y1 := q7.cell 1
    simp only [List.setIfInBounds_toArray, List.set_cons_zero, List.set_cons_succ, List.getElem?_toArray, List.getElem?_cons_zero, List.getElem?_cons_succ] at y0 y1
    have D := Lib.hid (OwnH.out (w := w) (g := w.heap.size + 1) ow hl1 (bb1.trans (J.mono bb1.size)) (Nat.le_succ _))
    clear I0 I1 e0 e1 e2 e3 hall q7 J ow k0 k1 r1
    go_wp2_with fail
    exact bodyPost_ret (v := .agg #[.slice Ac nc cc, .slice Ar nr cr]) (by simp [results, Try.results75, go_sem, *]) rfl ⟨_, _, rfl, by rw [HR.out]; exact D.out.1, D.out.2⟩
end Go.Proofs.Ytmjejcfifkbkoaa
