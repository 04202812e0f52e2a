/- What the program's HeapOf returns: for every list of numbers. No conditions. -/
import Derived.Test.YtmjejcfifkbkoaaVu
import Derived.Test.YtmjejcfifkbkoaaGx
namespace Go.Proofs.Ytmjejcfifkbkoaa
open Go.RowKit
set_option maxRecDepth 100000

set_option maxHeartbeats 4000000 in
theorem heapOf_any (A : Option Addr) (n c : Nat) (xs : List Int) (w : World) (h : IS w w.heap.size A n xs) (hn : n ≤ 1099511627776) (hc : n ≤ c) :
    Calls Try.prog 29 #[.slice A n c] w (GaveH2 w (Hps.heapOfV xs).1 (Hps.heapOfV xs).2) := by
  have b0 : Below w.heap.size w (w.alloc (.cells #[.slice none 0 0, .slice none 0 0] 28)) := (Below.refl _ _).alloc (Nat.le_refl _) _
  have q0 := Rw.new w 28 #[.slice none 0 0, .slice none 0 0]
  have r0 := h.up b0
  have hw0 : (w.alloc (.cells #[.slice none 0 0, .slice none 0 0] 28)).heap.size = w.heap.size + 1 := by simp
  have hln := h.1
  go_enter Try.func29, Try.ntmps29
  go_upto_region 1 with fail
  generalize w.alloc (.cells #[.slice none 0 0, .slice none 0 0] 28) = w0 at b0 q0 r0 hw0 ⊢
  have HW := Lib.hid hw0
  clear hw0
  go_wp2_with fail
  refine (decoded_any A n c xs _ r0 hn hc).mono ?_
  rintro e w1 (⟨rfl, hz, b1⟩ | ⟨cs, vc, vr, rfl, own, b1, D⟩)
  · have HZ := Lib.hid hz
    have bbz := (b0.trans (b1.mono (by rw [HW.out]; omega))).alloc (by have := b1.size; rw [HW.out] at this; omega) (.cells #[.slice none 0 0, .slice none 0 0] 28)
    have qz := (q0.keep b1 (by rw [HW.out]; omega)).alloc (.cells #[.slice none 0 0, .slice none 0 0] 28)
    clear hz
    have BB := (bbz.setCell (p := ⟨w.heap.size, 0, none⟩) (Nat.le_refl _) (.slice none 0 0)).setCell (p := ⟨w.heap.size, 1, none⟩) (Nat.le_refl _) (.slice none 0 0)
    have qz' := (qz.put 0 (.slice none 0 0)).put 1 (.slice none 0 0)
    have z0 := qz.cell 0
    have z1 := qz.cell 1
    have y0 := qz'.cell 0
    have y1 := qz'.cell 1
    simp only [List.setIfInBounds_toArray, List.set_cons_zero, List.set_cons_succ, List.getElem?_toArray, List.getElem?_cons_zero, List.getElem?_cons_succ] at z0 z1 y0 y1
    have f0 := qz.frozen 0
    have f1 := qz.frozen 1
    clear bbz qz qz'
    go_wp2_with fail
    exact bodyPost_ret (v := .tuple #[.agg #[.slice none 0 0, .slice none 0 0], .bool false]) (by simp [results, Try.results29, go_sem, *]) rfl ⟨_, _, by rw [HZ.out], by rw [HZ.out]; exact own_zeroH _ _ BB.size, BB⟩
  · obtain ⟨rvs, ow⟩ := own
    have hsh := D.short
    have h4 := D.four
    have HD := Lib.hid D.fin
    obtain ⟨Ac, cc, Ar, cr, ec, er, hcc, hcr, -⟩ := ow.form
    have hl4 : (xs.take 4).length = 4 := by rw [List.length_take]; omega
    rw [show (⟨cs, xs.take 4⟩ : Hp).rt.length = 4 from hl4] at er hcr
    obtain ⟨k, hk⟩ : ∃ k, cs.length = k := ⟨_, rfl⟩
    rw [show (⟨cs, xs.take 4⟩ : Hp).cs.length = k from hk] at ec hcc
    subst ec er
    have e3 : (⟨cs, xs.take 4⟩ : Hp).cs.length = k := hk
    have e4 : (⟨cs, xs.take 4⟩ : Hp).rt.length = 4 := hl4
    obtain ⟨hh, hhe⟩ : ∃ hh, (⟨cs, xs.take 4⟩ : Hp) = hh := ⟨_, rfl⟩
    rw [hhe] at ow e3 e4 HD
    have HE3 := Lib.hid e3
    have hk1 : k ≤ 1099511627776 := by simp at hsh; omega
    have hz1 := b1.size
    rw [HW.out] at hz1
    have b2 := (b0.trans (b1.mono (by rw [HW.out]; omega))).alloc (by omega) (.cells #[.slice Ac k cc, .slice Ar 4 cr] 28)
    have q2 := (q0.keep b1 (by rw [HW.out]; omega)).alloc (.cells #[.slice Ac k cc, .slice Ar 4 cr] 28)
    have x2 := Rw.new w1 28 #[.slice Ac k cc, .slice Ar 4 cr]
    have ba := (Below.refl w1.heap.size w1).alloc (Nat.le_refl _) (.cells #[.slice Ac k cc, .slice Ar 4 cr] 28)
    have ow2 := ow.below ba (Nat.le_refl _)
    have r2 := r0.below (b1.alloc b1.size (.cells #[.slice Ac k cc, .slice Ar 4 cr] 28))
    have hs2 := ow2.reads
    clear ow D hsh hk hhe e3 e4 hl4 b1 ba
    go_upto_region 2 with fail
    generalize w1.alloc (.cells #[.slice Ac k cc, .slice Ar 4 cr] 28) = w2 at b2 q2 x2 ow2 r2 hs2 ⊢
    generalize w1.heap.size = b at x2 ⊢
    have x0 : w2.cell? ⟨b, 0, none⟩ = some (.slice Ac k cc) := x2.cell 0
    have x1 : w2.cell? ⟨b, 1, none⟩ = some (.slice Ar 4 cr) := x2.cell 1
    cases hv : Hps.validH hh
    · have HZ := Lib.hid (show Hps.heapOfV xs = (Hps.zeroH, false) by rw [HD.out, if_neg (fun e => by rw [hv] at e; cases e.1)])
      have HV := Lib.hid hv
      clear hv
      go_wp2_with fail
      refine (heapValid_any _ _ _ _ _ _ hh _ hs2 hk1 (by omega) hcc hcr).mono ?_
      rw [HV.out]
      rintro e w3 ⟨rfl, b3⟩
      have bbz := b2.trans (b3.mono b2.size)
      have qz := q2.keep b3 q2.lt
      have BB := (bbz.setCell (p := ⟨w.heap.size, 0, none⟩) (Nat.le_refl _) (.slice none 0 0)).setCell (p := ⟨w.heap.size, 1, none⟩) (Nat.le_refl _) (.slice none 0 0)
      have qz' := (qz.put 0 (.slice none 0 0)).put 1 (.slice none 0 0)
      have z0 := qz.cell 0
      have z1 := qz.cell 1
      have y0 := qz'.cell 0
      have y1 := qz'.cell 1
      simp only [List.setIfInBounds_toArray, List.set_cons_zero, List.set_cons_succ, List.getElem?_toArray, List.getElem?_cons_zero, List.getElem?_cons_succ] at z0 z1 y0 y1
      have f0 := qz.frozen 0
      have f1 := qz.frozen 1
      clear bbz qz qz'
      go_wp2_with fail
      exact bodyPost_ret (v := .tuple #[.agg #[.slice none 0 0, .slice none 0 0], .bool false]) (by simp [results, Try.results29, go_sem, *]) rfl ⟨_, _, by rw [HZ.out], by rw [HZ.out]; exact own_zeroH _ _ BB.size, BB⟩
    · have HV := Lib.hid hv
      have HVS := Lib.hid (Hps.view_small hh)
      by_cases hvw : Hps.viewH hh = xs
      · have HZ := Lib.hid (show Hps.heapOfV xs = (hh, true) by rw [HD.out, if_pos ⟨hv, hvw⟩])
        have HQ := Lib.hid (show decide (Hps.viewH hh = xs) = true from decide_eq_true hvw)
        clear hv hvw
        go_wp2_with fail
        refine (heapValid_any _ _ _ _ _ _ hh _ hs2 hk1 (by omega) hcc hcr).mono ?_
        rw [HV.out]
        rintro e w3 ⟨rfl, b3⟩
        have x3 := x2.keep b3 x2.lt
        have hs3 := hs2.up b3
        have bb3 := b2.trans (b3.mono b2.size)
        have q3 := q2.keep b3 q2.lt
        have ow3 := ow2.below b3 (Nat.le_refl _)
        have r3 := r2.below (b3.mono (by have := b2.size; have := q2.lt; rw [HW.out]; omega))
        have x0 : w3.cell? ⟨b, 0, none⟩ = some (.slice Ac k cc) := x3.cell 0
        have x1 : w3.cell? ⟨b, 1, none⟩ = some (.slice Ar 4 cr) := x3.cell 1
        go_wp2_with fail
        refine (encoded_any _ _ _ _ _ _ hh _ hs3 HV.out).mono ?_
        rintro e w4 ⟨ov, N, n', c', vv, rfl, o1, o2, b4⟩
        obtain ⟨A1, c1, rfl, -⟩ := o1.form
        obtain ⟨A2, c2, rfl, -⟩ := o2.form
        have F0 := field_enc1 A1 N A2 (Hps.orderH hh).length c1 n' c' (Hps.viewH hh).length c2
        have x4 := x3.keep b4 x3.lt
        have bb4 := bb3.trans (b4.mono bb3.size)
        have q4 := q3.keep b4 q3.lt
        have ow4 := ow3.below b4 (Nat.le_refl _)
        have r4 := (r3.below (b4.mono (by have := q3.lt; rw [HW.out]; omega))).more (B' := w4.heap.size) (by have := q4.lt; rw [HW.out]; omega)
        go_wp2_with fail
        refine (equalI_any _ _ _ _ _ _ _ _ _ o2.reads r4 (by have := HVS.out; omega) hn).mono ?_
        rw [HQ.out]
        rintro e w5 ⟨rfl, b5⟩
        have x5 := x4.keep b5 x4.lt
        have bb5 := bb4.trans (b5.mono bb4.size)
        have q5 := q4.keep b5 q4.lt
        have ow5 := ow4.below b5 (Nat.le_refl _)
        have D := Lib.hid (OwnH.out (w := w) (g := w.heap.size) ⟨rvs, ow5⟩ (by rw [HW.out]; omega) bb5 (Nat.le_refl _))
        have x0 : w5.cell? ⟨b, 0, none⟩ = some (.slice Ac k cc) := x5.cell 0
        have x1 : w5.cell? ⟨b, 1, none⟩ = some (.slice Ar 4 cr) := x5.cell 1
        have q6 := (q5.put 0 (.slice Ac k cc)).put 1 (.slice Ar 4 cr)
        have z0 := q5.cell 0
        have z1 := q5.cell 1
        have y0 := q6.cell 0
        have y1 := q6.cell 1
        simp only [List.setIfInBounds_toArray, List.set_cons_zero, List.set_cons_succ, List.getElem?_toArray, List.getElem?_cons_zero, List.getElem?_cons_succ] at z0 z1 y0 y1
        have f0 := q5.frozen 0
        have f1 := q5.frozen 1
        clear x2 x3 x4 x5 bb3 bb4 bb5 q2 q3 q4 q5 q6 ow2 ow3 ow4 ow5 o1 o2 r2 r3 r4 hs2 hs3 b3 b4 b5
        go_wp2_with fail
        exact bodyPost_ret (v := .tuple #[.agg #[.slice Ac k cc, .slice Ar 4 cr], .bool true]) (by simp [results, Try.results29, go_sem, *]) rfl ⟨_, _, by rw [HZ.out], by rw [HZ.out]; exact D.out.1, D.out.2⟩
      · have HZ := Lib.hid (show Hps.heapOfV xs = (Hps.zeroH, false) by rw [HD.out, if_neg (fun e => hvw e.2)])
        have HQ := Lib.hid (show decide (Hps.viewH hh = xs) = false from decide_eq_false hvw)
        clear hv hvw
        go_wp2_with fail
        refine (heapValid_any _ _ _ _ _ _ hh _ hs2 hk1 (by omega) hcc hcr).mono ?_
        rw [HV.out]
        rintro e w3 ⟨rfl, b3⟩
        have x3 := x2.keep b3 x2.lt
        have hs3 := hs2.up b3
        have bb3 := b2.trans (b3.mono b2.size)
        have q3 := q2.keep b3 q2.lt
        have r3 := r2.below (b3.mono (by have := b2.size; have := q2.lt; rw [HW.out]; omega))
        have x0 : w3.cell? ⟨b, 0, none⟩ = some (.slice Ac k cc) := x3.cell 0
        have x1 : w3.cell? ⟨b, 1, none⟩ = some (.slice Ar 4 cr) := x3.cell 1
        go_wp2_with fail
        refine (encoded_any _ _ _ _ _ _ hh _ hs3 HV.out).mono ?_
        rintro e w4 ⟨ov, N, n', c', vv, rfl, o1, o2, b4⟩
        obtain ⟨A1, c1, rfl, -⟩ := o1.form
        obtain ⟨A2, c2, rfl, -⟩ := o2.form
        have F0 := field_enc1 A1 N A2 (Hps.orderH hh).length c1 n' c' (Hps.viewH hh).length c2
        have bb4 := bb3.trans (b4.mono bb3.size)
        have q4 := q3.keep b4 q3.lt
        have r4 := (r3.below (b4.mono (by have := q3.lt; rw [HW.out]; omega))).more (B' := w4.heap.size) (by have := q4.lt; rw [HW.out]; omega)
        go_wp2_with fail
        refine (equalI_any _ _ _ _ _ _ _ _ _ o2.reads r4 (by have := HVS.out; omega) hn).mono ?_
        rw [HQ.out]
        rintro e w5 ⟨rfl, b5⟩
        have bbz := bb4.trans (b5.mono bb4.size)
        have qz := q4.keep b5 q4.lt
        clear x2 x3 bb3 bb4 q2 q3 q4 o1 o2 r2 r3 r4 hs2 hs3 b3 b4 b5 ow2
        have BB := (bbz.setCell (p := ⟨w.heap.size, 0, none⟩) (Nat.le_refl _) (.slice none 0 0)).setCell (p := ⟨w.heap.size, 1, none⟩) (Nat.le_refl _) (.slice none 0 0)
        have qz' := (qz.put 0 (.slice none 0 0)).put 1 (.slice none 0 0)
        have z0 := qz.cell 0
        have z1 := qz.cell 1
        have y0 := qz'.cell 0
        have y1 := qz'.cell 1
        simp only [List.setIfInBounds_toArray, List.set_cons_zero, List.set_cons_succ, List.getElem?_toArray, List.getElem?_cons_zero, List.getElem?_cons_succ] at z0 z1 y0 y1
        have f0 := qz.frozen 0
        have f1 := qz.frozen 1
        clear bbz qz qz'
        go_wp2_with fail
        exact bodyPost_ret (v := .tuple #[.agg #[.slice none 0 0, .slice none 0 0], .bool false]) (by simp [results, Try.results29, go_sem, *]) rfl ⟨_, _, by rw [HZ.out], by rw [HZ.out]; exact own_zeroH _ _ BB.size, BB⟩
end Go.Proofs.Ytmjejcfifkbkoaa
