/- What the program's SameView returns: for all heaps. No conditions. -/
import Derived.Test.YtbcefmkgifkjiaaVr
import Derived.Test.YtbcefmkgifkjiaaVq
import Derived.Test.YtbcefmkgifkjiaaGv
import Derived.Test.YtbcefmkgifkjiaaKf
import Derived.Deep.Cut
namespace Go.Proofs.Ytbcefmkgifkjiaa
open Go.RowKit
set_option maxRecDepth 100000

set_option maxHeartbeats 4000000 in
theorem sameView_any (A R A' R' : Option Addr) (n c m d n' c' m' d' : Nat) (a b : Hp) (w : World) (hs : HS w w.heap.size A n R m a) (hs' : HS w w.heap.size A' n' R' m' b) (hn : n ≤ 1099511627776) (hm : m ≤ 1099511627776) (hc : n ≤ c) (hmd : m ≤ d) (hn' : n' ≤ 1099511627776) (hm' : m' ≤ 1099511627776) (hc' : n' ≤ c') (hd' : m' ≤ d') :
    Calls Try.prog 19 #[heapV A n c R m d, heapV A' n' c' R' m' d'] w fun e w' => e = .returned (.bool (Hps.sameV a b)) ∧ Below w.heap.size w w' := by
  have b0 : Below w.heap.size w ((w.alloc (.cells #[.slice A n c, .slice R m d] 26)).alloc (.cells #[.slice A' n' c', .slice R' m' d'] 26)) := ((Below.refl _ _).alloc (Nat.le_refl _) _).alloc (by simp) _
  have r0 := hs.up b0
  have s0 := hs'.up b0
  have p0 := (Rw.new w 26 #[.slice A n c, .slice R m d]).alloc (.cells #[.slice A' n' c', .slice R' m' d'] 26)
  have q0 := Rw.new (w.alloc (.cells #[.slice A n c, .slice R m d] 26)) 26 #[.slice A' n' c', .slice R' m' d']
  rw [World.size_alloc] at q0
  have HLA := Lib.hid (Hps.view_small a)
  have HLB := Lib.hid (Hps.view_small b)
  rcases (show (Hps.validH a = false) ∨ (Hps.validH a = true ∧ Hps.validH b = false) ∨ (Hps.validH a = true ∧ Hps.validH b = true) by cases Hps.validH a <;> cases Hps.validH b <;> simp) with hva | ⟨hva, hvb⟩ | ⟨hva, hvb⟩
  · have HSV := Lib.hid (show Hps.sameV a b = false from by rw [Hps.sameV, hva, Bool.false_and])
    have HVA := Lib.hid hva
    clear hva
    go_enter Try.func19, Try.ntmps19
    go_upto_region 1 with fail
    generalize (w.alloc (.cells #[.slice A n c, .slice R m d] 26)).alloc (.cells #[.slice A' n' c', .slice R' m' d'] 26) = w3 at b0 r0 s0 p0 q0 ⊢
    have hpl := p0.lt
    have hql := q0.lt
    have x0 : w3.cell? ⟨w.heap.size, 0, none⟩ = some (.slice A n c) := p0.cell 0
    have x1 : w3.cell? ⟨w.heap.size, 1, none⟩ = some (.slice R m d) := p0.cell 1
    have y0 : w3.cell? ⟨w.heap.size + 1, 0, none⟩ = some (.slice A' n' c') := q0.cell 0
    have y1 : w3.cell? ⟨w.heap.size + 1, 1, none⟩ = some (.slice R' m' d') := q0.cell 1
    refine wp_region_inv (by kernel_rfl) (by kernel_rfl) (fun L ac ww => ∃ t4 t5 t6 t7 t8 t9 t10 t11 t12 t13 t14 t15 t16 t17 t18 t19 : Value, ac = { tmps := #[heapV A n c R m d, heapV A' n' c' R' m' d', Value.pointer (some { block := w.heap.size, off := 0 }), Value.pointer (some { block := w.heap.size + 1, off := 0 }), t4, t5, t6, t7, t8, t9, t10, t11, t12, t13, t14, t15, t16, t17, t18, t19], defers := [] } ∧ (Below w3.heap.size w3 ww) ∧ (L 0 = true → t5 = .agg #[.slice A n c, .slice R m d]) ∧ (L 1 = true → t6 = .bool false) ∧ (L 2 = true → t7 = .bool false) ∧ (L 3 = true → True) ∧ (L 4 = true → True) ∧ (L 5 = true → t10 = .bool false) ∧ (L 6 = true → t11 = .bool false) ∧ (L 7 = true → True) ∧ (L 8 = true → True) ∧ (L 9 = true → True) ∧ (L 10 = true → True) ∧ (L 11 = true → True) ∧ (L 12 = true → True) ∧ (L 13 = true → True) ∧ (L 14 = true → t19 = .bool false) ∧ (L 15 = true → t4 = .bool false)) ?h0 ?hstep ?hdone
    case h0 => exact ⟨_, _, _, _, _, _, _, _, _, _, _, _, _, _, _, _, rfl, (Below.refl _ _).drew, (fun h => absurd h Bool.false_ne_true), (fun h => absurd h Bool.false_ne_true), (fun h => absurd h Bool.false_ne_true), (fun h => absurd h Bool.false_ne_true), (fun h => absurd h Bool.false_ne_true), (fun h => absurd h Bool.false_ne_true), (fun h => absurd h Bool.false_ne_true), (fun h => absurd h Bool.false_ne_true), (fun h => absurd h Bool.false_ne_true), (fun h => absurd h Bool.false_ne_true), (fun h => absurd h Bool.false_ne_true), (fun h => absurd h Bool.false_ne_true), (fun h => absurd h Bool.false_ne_true), (fun h => absurd h Bool.false_ne_true), (fun h => absurd h Bool.false_ne_true), (fun h => absurd h Bool.false_ne_true)⟩
    case hstep =>
      rintro L ac ww i o ho hL hd ⟨t4, t5, t6, t7, t8, t9, t10, t11, t12, t13, t14, t15, t16, t17, t18, t19, rfl, I0, f0, f1, f2, f3, f4, f5, f6, f7, f8, f9, f10, f11, f12, f13, f14, f15⟩
      have hi : i < 16 := (Array.getElem?_eq_some_iff.1 ho).1
      obtain rfl | rfl | rfl | rfl | rfl | rfl | rfl | rfl | rfl | rfl | rfl | rfl | rfl | rfl | rfl | rfl : i = 0 ∨ i = 1 ∨ i = 2 ∨ i = 3 ∨ i = 4 ∨ i = 5 ∨ i = 6 ∨ i = 7 ∨ i = 8 ∨ i = 9 ∨ i = 10 ∨ i = 11 ∨ i = 12 ∨ i = 13 ∨ i = 14 ∨ i = 15 := by omega
      · obtain rfl := Option.some.inj ho
        have z0 : ww.cell? ⟨w.heap.size, 0, none⟩ = some (.slice A n c) := (I0.cell (p := ⟨w.heap.size, 0, none⟩) hpl).trans x0
        have z1 : ww.cell? ⟨w.heap.size, 1, none⟩ = some (.slice R m d) := (I0.cell (p := ⟨w.heap.size, 1, none⟩) hpl).trans x1
        refine wpOp_step rfl (fun K' hK => ?_)
        go_simp
        refine hK _ _ ?_
        exact ⟨_, _, _, _, _, _, _, _, _, _, _, _, _, _, _, _, rfl, (I0), (fun _ => rfl), (fun h => f1 (upd_ne h (by decide))), (fun h => f2 (upd_ne h (by decide))), (fun h => f3 (upd_ne h (by decide))), (fun h => f4 (upd_ne h (by decide))), (fun h => f5 (upd_ne h (by decide))), (fun h => f6 (upd_ne h (by decide))), (fun h => f7 (upd_ne h (by decide))), (fun h => f8 (upd_ne h (by decide))), (fun h => f9 (upd_ne h (by decide))), (fun h => f10 (upd_ne h (by decide))), (fun h => f11 (upd_ne h (by decide))), (fun h => f12 (upd_ne h (by decide))), (fun h => f13 (upd_ne h (by decide))), (fun h => f14 (upd_ne h (by decide))), (fun h => f15 (upd_ne h (by decide)))⟩
      · obtain rfl := Option.some.inj ho
        have g0 := f0 (hd ⟨0, .data⟩ (by simp) rfl)
        subst g0
        refine wpOp_step rfl (fun K' hK => ?_)
        go_simp
        refine (heapValid_any _ _ _ _ _ _ a ww (r0.up I0) hn hm hc hmd).mono ?_
        rw [HVA.out]
        rintro e w' ⟨rfl, b5⟩
        refine hK _ _ ?_
        exact ⟨_, _, _, _, _, _, _, _, _, _, _, _, _, _, _, _, rfl, (I0.trans (b5.mono I0.size)), (fun h => f0 (upd_ne h (by decide))), (fun _ => rfl), (fun h => f2 (upd_ne h (by decide))), (fun h => f3 (upd_ne h (by decide))), (fun h => f4 (upd_ne h (by decide))), (fun h => f5 (upd_ne h (by decide))), (fun h => f6 (upd_ne h (by decide))), (fun h => f7 (upd_ne h (by decide))), (fun h => f8 (upd_ne h (by decide))), (fun h => f9 (upd_ne h (by decide))), (fun h => f10 (upd_ne h (by decide))), (fun h => f11 (upd_ne h (by decide))), (fun h => f12 (upd_ne h (by decide))), (fun h => f13 (upd_ne h (by decide))), (fun h => f14 (upd_ne h (by decide))), (fun h => f15 (upd_ne h (by decide)))⟩
      · obtain rfl := Option.some.inj ho
        have g1 := f1 (hd ⟨1, .data⟩ (by simp) rfl)
        subst g1
        refine wpOp_step rfl (fun K' hK => ?_)
        go_simp
        refine hK _ _ ?_
        exact ⟨_, _, _, _, _, _, _, _, _, _, _, _, _, _, _, _, rfl, (I0), (fun h => f0 (upd_ne h (by decide))), (fun h => f1 (upd_ne h (by decide))), (fun _ => rfl), (fun h => f3 (upd_ne h (by decide))), (fun h => f4 (upd_ne h (by decide))), (fun h => f5 (upd_ne h (by decide))), (fun h => f6 (upd_ne h (by decide))), (fun h => f7 (upd_ne h (by decide))), (fun h => f8 (upd_ne h (by decide))), (fun h => f9 (upd_ne h (by decide))), (fun h => f10 (upd_ne h (by decide))), (fun h => f11 (upd_ne h (by decide))), (fun h => f12 (upd_ne h (by decide))), (fun h => f13 (upd_ne h (by decide))), (fun h => f14 (upd_ne h (by decide))), (fun h => f15 (upd_ne h (by decide)))⟩
      · obtain rfl := Option.some.inj ho
        have g2 := f2 (hd ⟨2, .guard⟩ (by simp) rfl)
        subst g2
        refine wpOp_step rfl (fun K' hK => ?_)
        go_simp
        refine hK _ _ ?_
        exact ⟨_, _, _, _, _, _, _, _, _, _, _, _, _, _, _, _, rfl, (I0), (fun h => f0 (upd_ne h (by decide))), (fun h => f1 (upd_ne h (by decide))), (fun h => f2 (upd_ne h (by decide))), (fun _ => trivial), (fun h => f4 (upd_ne h (by decide))), (fun h => f5 (upd_ne h (by decide))), (fun h => f6 (upd_ne h (by decide))), (fun h => f7 (upd_ne h (by decide))), (fun h => f8 (upd_ne h (by decide))), (fun h => f9 (upd_ne h (by decide))), (fun h => f10 (upd_ne h (by decide))), (fun h => f11 (upd_ne h (by decide))), (fun h => f12 (upd_ne h (by decide))), (fun h => f13 (upd_ne h (by decide))), (fun h => f14 (upd_ne h (by decide))), (fun h => f15 (upd_ne h (by decide)))⟩
      · obtain rfl := Option.some.inj ho
        have g2 := f2 (hd ⟨2, .guard⟩ (by simp) rfl)
        subst g2
        refine wpOp_step rfl (fun K' hK => ?_)
        go_simp
        refine hK _ _ ?_
        exact ⟨_, _, _, _, _, _, _, _, _, _, _, _, _, _, _, _, rfl, (I0), (fun h => f0 (upd_ne h (by decide))), (fun h => f1 (upd_ne h (by decide))), (fun h => f2 (upd_ne h (by decide))), (fun h => f3 (upd_ne h (by decide))), (fun _ => trivial), (fun h => f5 (upd_ne h (by decide))), (fun h => f6 (upd_ne h (by decide))), (fun h => f7 (upd_ne h (by decide))), (fun h => f8 (upd_ne h (by decide))), (fun h => f9 (upd_ne h (by decide))), (fun h => f10 (upd_ne h (by decide))), (fun h => f11 (upd_ne h (by decide))), (fun h => f12 (upd_ne h (by decide))), (fun h => f13 (upd_ne h (by decide))), (fun h => f14 (upd_ne h (by decide))), (fun h => f15 (upd_ne h (by decide)))⟩
      · obtain rfl := Option.some.inj ho
        have g2 := f2 (hd ⟨2, .data⟩ (by simp) rfl)
        subst g2
        refine wpOp_step rfl (fun K' hK => ?_)
        go_simp
        refine hK _ _ ?_
        exact ⟨_, _, _, _, _, _, _, _, _, _, _, _, _, _, _, _, rfl, (I0), (fun h => f0 (upd_ne h (by decide))), (fun h => f1 (upd_ne h (by decide))), (fun h => f2 (upd_ne h (by decide))), (fun h => f3 (upd_ne h (by decide))), (fun h => f4 (upd_ne h (by decide))), (fun _ => rfl), (fun h => f6 (upd_ne h (by decide))), (fun h => f7 (upd_ne h (by decide))), (fun h => f8 (upd_ne h (by decide))), (fun h => f9 (upd_ne h (by decide))), (fun h => f10 (upd_ne h (by decide))), (fun h => f11 (upd_ne h (by decide))), (fun h => f12 (upd_ne h (by decide))), (fun h => f13 (upd_ne h (by decide))), (fun h => f14 (upd_ne h (by decide))), (fun h => f15 (upd_ne h (by decide)))⟩
      · obtain rfl := Option.some.inj ho
        have g5 := f5 (hd ⟨5, .data⟩ (by simp) rfl)
        subst g5
        refine wpOp_step rfl (fun K' hK => ?_)
        go_simp
        refine hK _ _ ?_
        exact ⟨_, _, _, _, _, _, _, _, _, _, _, _, _, _, _, _, rfl, (I0), (fun h => f0 (upd_ne h (by decide))), (fun h => f1 (upd_ne h (by decide))), (fun h => f2 (upd_ne h (by decide))), (fun h => f3 (upd_ne h (by decide))), (fun h => f4 (upd_ne h (by decide))), (fun h => f5 (upd_ne h (by decide))), (fun _ => rfl), (fun h => f7 (upd_ne h (by decide))), (fun h => f8 (upd_ne h (by decide))), (fun h => f9 (upd_ne h (by decide))), (fun h => f10 (upd_ne h (by decide))), (fun h => f11 (upd_ne h (by decide))), (fun h => f12 (upd_ne h (by decide))), (fun h => f13 (upd_ne h (by decide))), (fun h => f14 (upd_ne h (by decide))), (fun h => f15 (upd_ne h (by decide)))⟩
      · obtain rfl := Option.some.inj ho
        have g6 := f6 (hd ⟨6, .guard⟩ (by simp) rfl)
        subst g6
        refine wpOp_step rfl (fun K' hK => ?_)
        go_simp
        refine hK _ _ ?_
        exact ⟨_, _, _, _, _, _, _, _, _, _, _, _, _, _, _, _, rfl, (I0), (fun h => f0 (upd_ne h (by decide))), (fun h => f1 (upd_ne h (by decide))), (fun h => f2 (upd_ne h (by decide))), (fun h => f3 (upd_ne h (by decide))), (fun h => f4 (upd_ne h (by decide))), (fun h => f5 (upd_ne h (by decide))), (fun h => f6 (upd_ne h (by decide))), (fun _ => trivial), (fun h => f8 (upd_ne h (by decide))), (fun h => f9 (upd_ne h (by decide))), (fun h => f10 (upd_ne h (by decide))), (fun h => f11 (upd_ne h (by decide))), (fun h => f12 (upd_ne h (by decide))), (fun h => f13 (upd_ne h (by decide))), (fun h => f14 (upd_ne h (by decide))), (fun h => f15 (upd_ne h (by decide)))⟩
      · obtain rfl := Option.some.inj ho
        have g6 := f6 (hd ⟨6, .guard⟩ (by simp) rfl)
        subst g6
        refine wpOp_step rfl (fun K' hK => ?_)
        go_simp
        refine hK _ _ ?_
        exact ⟨_, _, _, _, _, _, _, _, _, _, _, _, _, _, _, _, rfl, (I0), (fun h => f0 (upd_ne h (by decide))), (fun h => f1 (upd_ne h (by decide))), (fun h => f2 (upd_ne h (by decide))), (fun h => f3 (upd_ne h (by decide))), (fun h => f4 (upd_ne h (by decide))), (fun h => f5 (upd_ne h (by decide))), (fun h => f6 (upd_ne h (by decide))), (fun h => f7 (upd_ne h (by decide))), (fun _ => trivial), (fun h => f9 (upd_ne h (by decide))), (fun h => f10 (upd_ne h (by decide))), (fun h => f11 (upd_ne h (by decide))), (fun h => f12 (upd_ne h (by decide))), (fun h => f13 (upd_ne h (by decide))), (fun h => f14 (upd_ne h (by decide))), (fun h => f15 (upd_ne h (by decide)))⟩
      · obtain rfl := Option.some.inj ho
        have g6 := f6 (hd ⟨6, .guard⟩ (by simp) rfl)
        subst g6
        refine wpOp_step rfl (fun K' hK => ?_)
        go_simp
        refine hK _ _ ?_
        exact ⟨_, _, _, _, _, _, _, _, _, _, _, _, _, _, _, _, rfl, (I0), (fun h => f0 (upd_ne h (by decide))), (fun h => f1 (upd_ne h (by decide))), (fun h => f2 (upd_ne h (by decide))), (fun h => f3 (upd_ne h (by decide))), (fun h => f4 (upd_ne h (by decide))), (fun h => f5 (upd_ne h (by decide))), (fun h => f6 (upd_ne h (by decide))), (fun h => f7 (upd_ne h (by decide))), (fun h => f8 (upd_ne h (by decide))), (fun _ => trivial), (fun h => f10 (upd_ne h (by decide))), (fun h => f11 (upd_ne h (by decide))), (fun h => f12 (upd_ne h (by decide))), (fun h => f13 (upd_ne h (by decide))), (fun h => f14 (upd_ne h (by decide))), (fun h => f15 (upd_ne h (by decide)))⟩
      · obtain rfl := Option.some.inj ho
        have g6 := f6 (hd ⟨6, .guard⟩ (by simp) rfl)
        subst g6
        refine wpOp_step rfl (fun K' hK => ?_)
        go_simp
        refine hK _ _ ?_
        exact ⟨_, _, _, _, _, _, _, _, _, _, _, _, _, _, _, _, rfl, (I0), (fun h => f0 (upd_ne h (by decide))), (fun h => f1 (upd_ne h (by decide))), (fun h => f2 (upd_ne h (by decide))), (fun h => f3 (upd_ne h (by decide))), (fun h => f4 (upd_ne h (by decide))), (fun h => f5 (upd_ne h (by decide))), (fun h => f6 (upd_ne h (by decide))), (fun h => f7 (upd_ne h (by decide))), (fun h => f8 (upd_ne h (by decide))), (fun h => f9 (upd_ne h (by decide))), (fun _ => trivial), (fun h => f11 (upd_ne h (by decide))), (fun h => f12 (upd_ne h (by decide))), (fun h => f13 (upd_ne h (by decide))), (fun h => f14 (upd_ne h (by decide))), (fun h => f15 (upd_ne h (by decide)))⟩
      · obtain rfl := Option.some.inj ho
        have g6 := f6 (hd ⟨6, .guard⟩ (by simp) rfl)
        subst g6
        refine wpOp_step rfl (fun K' hK => ?_)
        go_simp
        refine hK _ _ ?_
        exact ⟨_, _, _, _, _, _, _, _, _, _, _, _, _, _, _, _, rfl, (I0), (fun h => f0 (upd_ne h (by decide))), (fun h => f1 (upd_ne h (by decide))), (fun h => f2 (upd_ne h (by decide))), (fun h => f3 (upd_ne h (by decide))), (fun h => f4 (upd_ne h (by decide))), (fun h => f5 (upd_ne h (by decide))), (fun h => f6 (upd_ne h (by decide))), (fun h => f7 (upd_ne h (by decide))), (fun h => f8 (upd_ne h (by decide))), (fun h => f9 (upd_ne h (by decide))), (fun h => f10 (upd_ne h (by decide))), (fun _ => trivial), (fun h => f12 (upd_ne h (by decide))), (fun h => f13 (upd_ne h (by decide))), (fun h => f14 (upd_ne h (by decide))), (fun h => f15 (upd_ne h (by decide)))⟩
      · obtain rfl := Option.some.inj ho
        have g6 := f6 (hd ⟨6, .guard⟩ (by simp) rfl)
        subst g6
        refine wpOp_step rfl (fun K' hK => ?_)
        go_simp
        refine hK _ _ ?_
        exact ⟨_, _, _, _, _, _, _, _, _, _, _, _, _, _, _, _, rfl, (I0), (fun h => f0 (upd_ne h (by decide))), (fun h => f1 (upd_ne h (by decide))), (fun h => f2 (upd_ne h (by decide))), (fun h => f3 (upd_ne h (by decide))), (fun h => f4 (upd_ne h (by decide))), (fun h => f5 (upd_ne h (by decide))), (fun h => f6 (upd_ne h (by decide))), (fun h => f7 (upd_ne h (by decide))), (fun h => f8 (upd_ne h (by decide))), (fun h => f9 (upd_ne h (by decide))), (fun h => f10 (upd_ne h (by decide))), (fun h => f11 (upd_ne h (by decide))), (fun _ => trivial), (fun h => f13 (upd_ne h (by decide))), (fun h => f14 (upd_ne h (by decide))), (fun h => f15 (upd_ne h (by decide)))⟩
      · obtain rfl := Option.some.inj ho
        have g6 := f6 (hd ⟨6, .guard⟩ (by simp) rfl)
        subst g6
        refine wpOp_step rfl (fun K' hK => ?_)
        go_simp
        refine hK _ _ ?_
        exact ⟨_, _, _, _, _, _, _, _, _, _, _, _, _, _, _, _, rfl, (I0), (fun h => f0 (upd_ne h (by decide))), (fun h => f1 (upd_ne h (by decide))), (fun h => f2 (upd_ne h (by decide))), (fun h => f3 (upd_ne h (by decide))), (fun h => f4 (upd_ne h (by decide))), (fun h => f5 (upd_ne h (by decide))), (fun h => f6 (upd_ne h (by decide))), (fun h => f7 (upd_ne h (by decide))), (fun h => f8 (upd_ne h (by decide))), (fun h => f9 (upd_ne h (by decide))), (fun h => f10 (upd_ne h (by decide))), (fun h => f11 (upd_ne h (by decide))), (fun h => f12 (upd_ne h (by decide))), (fun _ => trivial), (fun h => f14 (upd_ne h (by decide))), (fun h => f15 (upd_ne h (by decide)))⟩
      · obtain rfl := Option.some.inj ho
        have g6 := f6 (hd ⟨6, .data⟩ (by simp) rfl)
        subst g6
        refine wpOp_step rfl (fun K' hK => ?_)
        go_simp
        refine hK _ _ ?_
        exact ⟨_, _, _, _, _, _, _, _, _, _, _, _, _, _, _, _, rfl, (I0), (fun h => f0 (upd_ne h (by decide))), (fun h => f1 (upd_ne h (by decide))), (fun h => f2 (upd_ne h (by decide))), (fun h => f3 (upd_ne h (by decide))), (fun h => f4 (upd_ne h (by decide))), (fun h => f5 (upd_ne h (by decide))), (fun h => f6 (upd_ne h (by decide))), (fun h => f7 (upd_ne h (by decide))), (fun h => f8 (upd_ne h (by decide))), (fun h => f9 (upd_ne h (by decide))), (fun h => f10 (upd_ne h (by decide))), (fun h => f11 (upd_ne h (by decide))), (fun h => f12 (upd_ne h (by decide))), (fun h => f13 (upd_ne h (by decide))), (fun _ => rfl), (fun h => f15 (upd_ne h (by decide)))⟩
      · obtain rfl := Option.some.inj ho
        have g14 := f14 (hd ⟨14, .data⟩ (by simp) rfl)
        subst g14
        refine wpOp_step rfl (fun K' hK => ?_)
        go_simp
        refine hK _ _ ?_
        exact ⟨_, _, _, _, _, _, _, _, _, _, _, _, _, _, _, _, rfl, (I0), (fun h => f0 (upd_ne h (by decide))), (fun h => f1 (upd_ne h (by decide))), (fun h => f2 (upd_ne h (by decide))), (fun h => f3 (upd_ne h (by decide))), (fun h => f4 (upd_ne h (by decide))), (fun h => f5 (upd_ne h (by decide))), (fun h => f6 (upd_ne h (by decide))), (fun h => f7 (upd_ne h (by decide))), (fun h => f8 (upd_ne h (by decide))), (fun h => f9 (upd_ne h (by decide))), (fun h => f10 (upd_ne h (by decide))), (fun h => f11 (upd_ne h (by decide))), (fun h => f12 (upd_ne h (by decide))), (fun h => f13 (upd_ne h (by decide))), (fun h => f14 (upd_ne h (by decide))), (fun _ => rfl)⟩
    case hdone =>
      rintro L ac ww hall ⟨t4, t5, t6, t7, t8, t9, t10, t11, t12, t13, t14, t15, t16, t17, t18, t19, rfl, I0, f0, f1, f2, f3, f4, f5, f6, f7, f8, f9, f10, f11, f12, f13, f14, f15⟩
      have e0 := f0 (hall 0 (by decide))
      have e1 := f1 (hall 1 (by decide))
      have e2 := f2 (hall 2 (by decide))
      have e3 := f3 (hall 3 (by decide))
      have e4 := f4 (hall 4 (by decide))
      have e5 := f5 (hall 5 (by decide))
      have e6 := f6 (hall 6 (by decide))
      have e7 := f7 (hall 7 (by decide))
      have e8 := f8 (hall 8 (by decide))
      have e9 := f9 (hall 9 (by decide))
      have e10 := f10 (hall 10 (by decide))
      have e11 := f11 (hall 11 (by decide))
      have e12 := f12 (hall 12 (by decide))
      have e13 := f13 (hall 13 (by decide))
      have e14 := f14 (hall 14 (by decide))
      have e15 := f15 (hall 15 (by decide))
      clear f0 f1 f2 f3 f4 f5 f6 f7 f8 f9 f10 f11 f12 f13 f14 f15
      subst e15
      have bbf := b0.trans (I0.mono b0.size)
      clear e0 e1 e2 e3 e4 e5 e6 e7 e8 e9 e10 e11 e12 e13 e14
      go_wp2_with fail
      go_ret
      exact ⟨by rw [HSV.out]; rfl, bbf⟩
  · have HSV := Lib.hid (show Hps.sameV a b = false from by rw [Hps.sameV, hva, Hps.view_not hvb, Bool.true_and]; exact decide_eq_false (fun e => by rw [Hps.view_nil.1 e] at hva; cases hva))
    have HVA := Lib.hid hva
    have HVB := Lib.hid hvb
    clear hva hvb
    go_enter Try.func19, Try.ntmps19
    go_upto_region 1 with fail
    generalize (w.alloc (.cells #[.slice A n c, .slice R m d] 26)).alloc (.cells #[.slice A' n' c', .slice R' m' d'] 26) = w3 at b0 r0 s0 p0 q0 ⊢
    have hpl := p0.lt
    have hql := q0.lt
    have x0 : w3.cell? ⟨w.heap.size, 0, none⟩ = some (.slice A n c) := p0.cell 0
    have x1 : w3.cell? ⟨w.heap.size, 1, none⟩ = some (.slice R m d) := p0.cell 1
    have y0 : w3.cell? ⟨w.heap.size + 1, 0, none⟩ = some (.slice A' n' c') := q0.cell 0
    have y1 : w3.cell? ⟨w.heap.size + 1, 1, none⟩ = some (.slice R' m' d') := q0.cell 1
    refine wp_region_inv (by kernel_rfl) (by kernel_rfl) (fun L ac ww => ∃ t4 t5 t6 t7 t8 t9 t10 t11 t12 t13 t14 t15 t16 t17 t18 t19 : Value, ac = { tmps := #[heapV A n c R m d, heapV A' n' c' R' m' d', Value.pointer (some { block := w.heap.size, off := 0 }), Value.pointer (some { block := w.heap.size + 1, off := 0 }), t4, t5, t6, t7, t8, t9, t10, t11, t12, t13, t14, t15, t16, t17, t18, t19], defers := [] } ∧ (Below w3.heap.size w3 ww) ∧ (L 0 = true → t5 = .agg #[.slice A n c, .slice R m d]) ∧ (L 1 = true → t6 = .bool true) ∧ (L 2 = true → t7 = .bool true) ∧ (L 3 = true → t8 = .agg #[.slice A' n' c', .slice R' m' d']) ∧ (L 4 = true → t9 = .bool false) ∧ (L 5 = true → t10 = .bool false) ∧ (L 6 = true → t11 = .bool false) ∧ (L 7 = true → True) ∧ (L 8 = true → True) ∧ (L 9 = true → True) ∧ (L 10 = true → True) ∧ (L 11 = true → True) ∧ (L 12 = true → True) ∧ (L 13 = true → True) ∧ (L 14 = true → t19 = .bool false) ∧ (L 15 = true → t4 = .bool false)) ?h0 ?hstep ?hdone
    case h0 => exact ⟨_, _, _, _, _, _, _, _, _, _, _, _, _, _, _, _, rfl, (Below.refl _ _).drew, (fun h => absurd h Bool.false_ne_true), (fun h => absurd h Bool.false_ne_true), (fun h => absurd h Bool.false_ne_true), (fun h => absurd h Bool.false_ne_true), (fun h => absurd h Bool.false_ne_true), (fun h => absurd h Bool.false_ne_true), (fun h => absurd h Bool.false_ne_true), (fun h => absurd h Bool.false_ne_true), (fun h => absurd h Bool.false_ne_true), (fun h => absurd h Bool.false_ne_true), (fun h => absurd h Bool.false_ne_true), (fun h => absurd h Bool.false_ne_true), (fun h => absurd h Bool.false_ne_true), (fun h => absurd h Bool.false_ne_true), (fun h => absurd h Bool.false_ne_true), (fun h => absurd h Bool.false_ne_true)⟩
    case hstep =>
      rintro L ac ww i o ho hL hd ⟨t4, t5, t6, t7, t8, t9, t10, t11, t12, t13, t14, t15, t16, t17, t18, t19, rfl, I0, f0, f1, f2, f3, f4, f5, f6, f7, f8, f9, f10, f11, f12, f13, f14, f15⟩
      have hi : i < 16 := (Array.getElem?_eq_some_iff.1 ho).1
      obtain rfl | rfl | rfl | rfl | rfl | rfl | rfl | rfl | rfl | rfl | rfl | rfl | rfl | rfl | rfl | rfl : i = 0 ∨ i = 1 ∨ i = 2 ∨ i = 3 ∨ i = 4 ∨ i = 5 ∨ i = 6 ∨ i = 7 ∨ i = 8 ∨ i = 9 ∨ i = 10 ∨ i = 11 ∨ i = 12 ∨ i = 13 ∨ i = 14 ∨ i = 15 := by omega
      · obtain rfl := Option.some.inj ho
        have z0 : ww.cell? ⟨w.heap.size, 0, none⟩ = some (.slice A n c) := (I0.cell (p := ⟨w.heap.size, 0, none⟩) hpl).trans x0
        have z1 : ww.cell? ⟨w.heap.size, 1, none⟩ = some (.slice R m d) := (I0.cell (p := ⟨w.heap.size, 1, none⟩) hpl).trans x1
        refine wpOp_step rfl (fun K' hK => ?_)
        go_simp
        refine hK _ _ ?_
        exact ⟨_, _, _, _, _, _, _, _, _, _, _, _, _, _, _, _, rfl, (I0), (fun _ => rfl), (fun h => f1 (upd_ne h (by decide))), (fun h => f2 (upd_ne h (by decide))), (fun h => f3 (upd_ne h (by decide))), (fun h => f4 (upd_ne h (by decide))), (fun h => f5 (upd_ne h (by decide))), (fun h => f6 (upd_ne h (by decide))), (fun h => f7 (upd_ne h (by decide))), (fun h => f8 (upd_ne h (by decide))), (fun h => f9 (upd_ne h (by decide))), (fun h => f10 (upd_ne h (by decide))), (fun h => f11 (upd_ne h (by decide))), (fun h => f12 (upd_ne h (by decide))), (fun h => f13 (upd_ne h (by decide))), (fun h => f14 (upd_ne h (by decide))), (fun h => f15 (upd_ne h (by decide)))⟩
      · obtain rfl := Option.some.inj ho
        have g0 := f0 (hd ⟨0, .data⟩ (by simp) rfl)
        subst g0
        refine wpOp_step rfl (fun K' hK => ?_)
        go_simp
        refine (heapValid_any _ _ _ _ _ _ a ww (r0.up I0) hn hm hc hmd).mono ?_
        rw [HVA.out]
        rintro e w' ⟨rfl, b5⟩
        refine hK _ _ ?_
        exact ⟨_, _, _, _, _, _, _, _, _, _, _, _, _, _, _, _, rfl, (I0.trans (b5.mono I0.size)), (fun h => f0 (upd_ne h (by decide))), (fun _ => rfl), (fun h => f2 (upd_ne h (by decide))), (fun h => f3 (upd_ne h (by decide))), (fun h => f4 (upd_ne h (by decide))), (fun h => f5 (upd_ne h (by decide))), (fun h => f6 (upd_ne h (by decide))), (fun h => f7 (upd_ne h (by decide))), (fun h => f8 (upd_ne h (by decide))), (fun h => f9 (upd_ne h (by decide))), (fun h => f10 (upd_ne h (by decide))), (fun h => f11 (upd_ne h (by decide))), (fun h => f12 (upd_ne h (by decide))), (fun h => f13 (upd_ne h (by decide))), (fun h => f14 (upd_ne h (by decide))), (fun h => f15 (upd_ne h (by decide)))⟩
      · obtain rfl := Option.some.inj ho
        have g1 := f1 (hd ⟨1, .data⟩ (by simp) rfl)
        subst g1
        refine wpOp_step rfl (fun K' hK => ?_)
        go_simp
        refine hK _ _ ?_
        exact ⟨_, _, _, _, _, _, _, _, _, _, _, _, _, _, _, _, rfl, (I0), (fun h => f0 (upd_ne h (by decide))), (fun h => f1 (upd_ne h (by decide))), (fun _ => rfl), (fun h => f3 (upd_ne h (by decide))), (fun h => f4 (upd_ne h (by decide))), (fun h => f5 (upd_ne h (by decide))), (fun h => f6 (upd_ne h (by decide))), (fun h => f7 (upd_ne h (by decide))), (fun h => f8 (upd_ne h (by decide))), (fun h => f9 (upd_ne h (by decide))), (fun h => f10 (upd_ne h (by decide))), (fun h => f11 (upd_ne h (by decide))), (fun h => f12 (upd_ne h (by decide))), (fun h => f13 (upd_ne h (by decide))), (fun h => f14 (upd_ne h (by decide))), (fun h => f15 (upd_ne h (by decide)))⟩
      · obtain rfl := Option.some.inj ho
        have g2 := f2 (hd ⟨2, .guard⟩ (by simp) rfl)
        subst g2
        have z0 : ww.cell? ⟨w.heap.size + 1, 0, none⟩ = some (.slice A' n' c') := (I0.cell (p := ⟨w.heap.size + 1, 0, none⟩) hql).trans y0
        have z1 : ww.cell? ⟨w.heap.size + 1, 1, none⟩ = some (.slice R' m' d') := (I0.cell (p := ⟨w.heap.size + 1, 1, none⟩) hql).trans y1
        refine wpOp_step rfl (fun K' hK => ?_)
        go_simp
        refine hK _ _ ?_
        exact ⟨_, _, _, _, _, _, _, _, _, _, _, _, _, _, _, _, rfl, (I0), (fun h => f0 (upd_ne h (by decide))), (fun h => f1 (upd_ne h (by decide))), (fun h => f2 (upd_ne h (by decide))), (fun _ => rfl), (fun h => f4 (upd_ne h (by decide))), (fun h => f5 (upd_ne h (by decide))), (fun h => f6 (upd_ne h (by decide))), (fun h => f7 (upd_ne h (by decide))), (fun h => f8 (upd_ne h (by decide))), (fun h => f9 (upd_ne h (by decide))), (fun h => f10 (upd_ne h (by decide))), (fun h => f11 (upd_ne h (by decide))), (fun h => f12 (upd_ne h (by decide))), (fun h => f13 (upd_ne h (by decide))), (fun h => f14 (upd_ne h (by decide))), (fun h => f15 (upd_ne h (by decide)))⟩
      · obtain rfl := Option.some.inj ho
        have g3 := f3 (hd ⟨3, .data⟩ (by simp) rfl)
        subst g3
        have g2 := f2 (hd ⟨2, .guard⟩ (by simp) rfl)
        subst g2
        refine wpOp_step rfl (fun K' hK => ?_)
        go_simp
        refine (heapValid_any _ _ _ _ _ _ b ww (s0.up I0) hn' hm' hc' hd').mono ?_
        rw [HVB.out]
        rintro e w' ⟨rfl, b5⟩
        refine hK _ _ ?_
        exact ⟨_, _, _, _, _, _, _, _, _, _, _, _, _, _, _, _, rfl, (I0.trans (b5.mono I0.size)), (fun h => f0 (upd_ne h (by decide))), (fun h => f1 (upd_ne h (by decide))), (fun h => f2 (upd_ne h (by decide))), (fun h => f3 (upd_ne h (by decide))), (fun _ => rfl), (fun h => f5 (upd_ne h (by decide))), (fun h => f6 (upd_ne h (by decide))), (fun h => f7 (upd_ne h (by decide))), (fun h => f8 (upd_ne h (by decide))), (fun h => f9 (upd_ne h (by decide))), (fun h => f10 (upd_ne h (by decide))), (fun h => f11 (upd_ne h (by decide))), (fun h => f12 (upd_ne h (by decide))), (fun h => f13 (upd_ne h (by decide))), (fun h => f14 (upd_ne h (by decide))), (fun h => f15 (upd_ne h (by decide)))⟩
      · obtain rfl := Option.some.inj ho
        have g2 := f2 (hd ⟨2, .data⟩ (by simp) rfl)
        have g4 := f4 (hd ⟨4, .data⟩ (by simp) rfl)
        subst g2
        subst g4
        refine wpOp_step rfl (fun K' hK => ?_)
        go_simp
        refine hK _ _ ?_
        exact ⟨_, _, _, _, _, _, _, _, _, _, _, _, _, _, _, _, rfl, (I0), (fun h => f0 (upd_ne h (by decide))), (fun h => f1 (upd_ne h (by decide))), (fun h => f2 (upd_ne h (by decide))), (fun h => f3 (upd_ne h (by decide))), (fun h => f4 (upd_ne h (by decide))), (fun _ => rfl), (fun h => f6 (upd_ne h (by decide))), (fun h => f7 (upd_ne h (by decide))), (fun h => f8 (upd_ne h (by decide))), (fun h => f9 (upd_ne h (by decide))), (fun h => f10 (upd_ne h (by decide))), (fun h => f11 (upd_ne h (by decide))), (fun h => f12 (upd_ne h (by decide))), (fun h => f13 (upd_ne h (by decide))), (fun h => f14 (upd_ne h (by decide))), (fun h => f15 (upd_ne h (by decide)))⟩
      · obtain rfl := Option.some.inj ho
        have g5 := f5 (hd ⟨5, .data⟩ (by simp) rfl)
        subst g5
        refine wpOp_step rfl (fun K' hK => ?_)
        go_simp
        refine hK _ _ ?_
        exact ⟨_, _, _, _, _, _, _, _, _, _, _, _, _, _, _, _, rfl, (I0), (fun h => f0 (upd_ne h (by decide))), (fun h => f1 (upd_ne h (by decide))), (fun h => f2 (upd_ne h (by decide))), (fun h => f3 (upd_ne h (by decide))), (fun h => f4 (upd_ne h (by decide))), (fun h => f5 (upd_ne h (by decide))), (fun _ => rfl), (fun h => f7 (upd_ne h (by decide))), (fun h => f8 (upd_ne h (by decide))), (fun h => f9 (upd_ne h (by decide))), (fun h => f10 (upd_ne h (by decide))), (fun h => f11 (upd_ne h (by decide))), (fun h => f12 (upd_ne h (by decide))), (fun h => f13 (upd_ne h (by decide))), (fun h => f14 (upd_ne h (by decide))), (fun h => f15 (upd_ne h (by decide)))⟩
      · obtain rfl := Option.some.inj ho
        have g6 := f6 (hd ⟨6, .guard⟩ (by simp) rfl)
        subst g6
        refine wpOp_step rfl (fun K' hK => ?_)
        go_simp
        refine hK _ _ ?_
        exact ⟨_, _, _, _, _, _, _, _, _, _, _, _, _, _, _, _, rfl, (I0), (fun h => f0 (upd_ne h (by decide))), (fun h => f1 (upd_ne h (by decide))), (fun h => f2 (upd_ne h (by decide))), (fun h => f3 (upd_ne h (by decide))), (fun h => f4 (upd_ne h (by decide))), (fun h => f5 (upd_ne h (by decide))), (fun h => f6 (upd_ne h (by decide))), (fun _ => trivial), (fun h => f8 (upd_ne h (by decide))), (fun h => f9 (upd_ne h (by decide))), (fun h => f10 (upd_ne h (by decide))), (fun h => f11 (upd_ne h (by decide))), (fun h => f12 (upd_ne h (by decide))), (fun h => f13 (upd_ne h (by decide))), (fun h => f14 (upd_ne h (by decide))), (fun h => f15 (upd_ne h (by decide)))⟩
      · obtain rfl := Option.some.inj ho
        have g6 := f6 (hd ⟨6, .guard⟩ (by simp) rfl)
        subst g6
        refine wpOp_step rfl (fun K' hK => ?_)
        go_simp
        refine hK _ _ ?_
        exact ⟨_, _, _, _, _, _, _, _, _, _, _, _, _, _, _, _, rfl, (I0), (fun h => f0 (upd_ne h (by decide))), (fun h => f1 (upd_ne h (by decide))), (fun h => f2 (upd_ne h (by decide))), (fun h => f3 (upd_ne h (by decide))), (fun h => f4 (upd_ne h (by decide))), (fun h => f5 (upd_ne h (by decide))), (fun h => f6 (upd_ne h (by decide))), (fun h => f7 (upd_ne h (by decide))), (fun _ => trivial), (fun h => f9 (upd_ne h (by decide))), (fun h => f10 (upd_ne h (by decide))), (fun h => f11 (upd_ne h (by decide))), (fun h => f12 (upd_ne h (by decide))), (fun h => f13 (upd_ne h (by decide))), (fun h => f14 (upd_ne h (by decide))), (fun h => f15 (upd_ne h (by decide)))⟩
      · obtain rfl := Option.some.inj ho
        have g6 := f6 (hd ⟨6, .guard⟩ (by simp) rfl)
        subst g6
        refine wpOp_step rfl (fun K' hK => ?_)
        go_simp
        refine hK _ _ ?_
        exact ⟨_, _, _, _, _, _, _, _, _, _, _, _, _, _, _, _, rfl, (I0), (fun h => f0 (upd_ne h (by decide))), (fun h => f1 (upd_ne h (by decide))), (fun h => f2 (upd_ne h (by decide))), (fun h => f3 (upd_ne h (by decide))), (fun h => f4 (upd_ne h (by decide))), (fun h => f5 (upd_ne h (by decide))), (fun h => f6 (upd_ne h (by decide))), (fun h => f7 (upd_ne h (by decide))), (fun h => f8 (upd_ne h (by decide))), (fun _ => trivial), (fun h => f10 (upd_ne h (by decide))), (fun h => f11 (upd_ne h (by decide))), (fun h => f12 (upd_ne h (by decide))), (fun h => f13 (upd_ne h (by decide))), (fun h => f14 (upd_ne h (by decide))), (fun h => f15 (upd_ne h (by decide)))⟩
      · obtain rfl := Option.some.inj ho
        have g6 := f6 (hd ⟨6, .guard⟩ (by simp) rfl)
        subst g6
        refine wpOp_step rfl (fun K' hK => ?_)
        go_simp
        refine hK _ _ ?_
        exact ⟨_, _, _, _, _, _, _, _, _, _, _, _, _, _, _, _, rfl, (I0), (fun h => f0 (upd_ne h (by decide))), (fun h => f1 (upd_ne h (by decide))), (fun h => f2 (upd_ne h (by decide))), (fun h => f3 (upd_ne h (by decide))), (fun h => f4 (upd_ne h (by decide))), (fun h => f5 (upd_ne h (by decide))), (fun h => f6 (upd_ne h (by decide))), (fun h => f7 (upd_ne h (by decide))), (fun h => f8 (upd_ne h (by decide))), (fun h => f9 (upd_ne h (by decide))), (fun _ => trivial), (fun h => f11 (upd_ne h (by decide))), (fun h => f12 (upd_ne h (by decide))), (fun h => f13 (upd_ne h (by decide))), (fun h => f14 (upd_ne h (by decide))), (fun h => f15 (upd_ne h (by decide)))⟩
      · obtain rfl := Option.some.inj ho
        have g6 := f6 (hd ⟨6, .guard⟩ (by simp) rfl)
        subst g6
        refine wpOp_step rfl (fun K' hK => ?_)
        go_simp
        refine hK _ _ ?_
        exact ⟨_, _, _, _, _, _, _, _, _, _, _, _, _, _, _, _, rfl, (I0), (fun h => f0 (upd_ne h (by decide))), (fun h => f1 (upd_ne h (by decide))), (fun h => f2 (upd_ne h (by decide))), (fun h => f3 (upd_ne h (by decide))), (fun h => f4 (upd_ne h (by decide))), (fun h => f5 (upd_ne h (by decide))), (fun h => f6 (upd_ne h (by decide))), (fun h => f7 (upd_ne h (by decide))), (fun h => f8 (upd_ne h (by decide))), (fun h => f9 (upd_ne h (by decide))), (fun h => f10 (upd_ne h (by decide))), (fun _ => trivial), (fun h => f12 (upd_ne h (by decide))), (fun h => f13 (upd_ne h (by decide))), (fun h => f14 (upd_ne h (by decide))), (fun h => f15 (upd_ne h (by decide)))⟩
      · obtain rfl := Option.some.inj ho
        have g6 := f6 (hd ⟨6, .guard⟩ (by simp) rfl)
        subst g6
        refine wpOp_step rfl (fun K' hK => ?_)
        go_simp
        refine hK _ _ ?_
        exact ⟨_, _, _, _, _, _, _, _, _, _, _, _, _, _, _, _, rfl, (I0), (fun h => f0 (upd_ne h (by decide))), (fun h => f1 (upd_ne h (by decide))), (fun h => f2 (upd_ne h (by decide))), (fun h => f3 (upd_ne h (by decide))), (fun h => f4 (upd_ne h (by decide))), (fun h => f5 (upd_ne h (by decide))), (fun h => f6 (upd_ne h (by decide))), (fun h => f7 (upd_ne h (by decide))), (fun h => f8 (upd_ne h (by decide))), (fun h => f9 (upd_ne h (by decide))), (fun h => f10 (upd_ne h (by decide))), (fun h => f11 (upd_ne h (by decide))), (fun _ => trivial), (fun h => f13 (upd_ne h (by decide))), (fun h => f14 (upd_ne h (by decide))), (fun h => f15 (upd_ne h (by decide)))⟩
      · obtain rfl := Option.some.inj ho
        have g6 := f6 (hd ⟨6, .guard⟩ (by simp) rfl)
        subst g6
        refine wpOp_step rfl (fun K' hK => ?_)
        go_simp
        refine hK _ _ ?_
        exact ⟨_, _, _, _, _, _, _, _, _, _, _, _, _, _, _, _, rfl, (I0), (fun h => f0 (upd_ne h (by decide))), (fun h => f1 (upd_ne h (by decide))), (fun h => f2 (upd_ne h (by decide))), (fun h => f3 (upd_ne h (by decide))), (fun h => f4 (upd_ne h (by decide))), (fun h => f5 (upd_ne h (by decide))), (fun h => f6 (upd_ne h (by decide))), (fun h => f7 (upd_ne h (by decide))), (fun h => f8 (upd_ne h (by decide))), (fun h => f9 (upd_ne h (by decide))), (fun h => f10 (upd_ne h (by decide))), (fun h => f11 (upd_ne h (by decide))), (fun h => f12 (upd_ne h (by decide))), (fun _ => trivial), (fun h => f14 (upd_ne h (by decide))), (fun h => f15 (upd_ne h (by decide)))⟩
      · obtain rfl := Option.some.inj ho
        have g6 := f6 (hd ⟨6, .data⟩ (by simp) rfl)
        subst g6
        refine wpOp_step rfl (fun K' hK => ?_)
        go_simp
        refine hK _ _ ?_
        exact ⟨_, _, _, _, _, _, _, _, _, _, _, _, _, _, _, _, rfl, (I0), (fun h => f0 (upd_ne h (by decide))), (fun h => f1 (upd_ne h (by decide))), (fun h => f2 (upd_ne h (by decide))), (fun h => f3 (upd_ne h (by decide))), (fun h => f4 (upd_ne h (by decide))), (fun h => f5 (upd_ne h (by decide))), (fun h => f6 (upd_ne h (by decide))), (fun h => f7 (upd_ne h (by decide))), (fun h => f8 (upd_ne h (by decide))), (fun h => f9 (upd_ne h (by decide))), (fun h => f10 (upd_ne h (by decide))), (fun h => f11 (upd_ne h (by decide))), (fun h => f12 (upd_ne h (by decide))), (fun h => f13 (upd_ne h (by decide))), (fun _ => rfl), (fun h => f15 (upd_ne h (by decide)))⟩
      · obtain rfl := Option.some.inj ho
        have g14 := f14 (hd ⟨14, .data⟩ (by simp) rfl)
        subst g14
        refine wpOp_step rfl (fun K' hK => ?_)
        go_simp
        refine hK _ _ ?_
        exact ⟨_, _, _, _, _, _, _, _, _, _, _, _, _, _, _, _, rfl, (I0), (fun h => f0 (upd_ne h (by decide))), (fun h => f1 (upd_ne h (by decide))), (fun h => f2 (upd_ne h (by decide))), (fun h => f3 (upd_ne h (by decide))), (fun h => f4 (upd_ne h (by decide))), (fun h => f5 (upd_ne h (by decide))), (fun h => f6 (upd_ne h (by decide))), (fun h => f7 (upd_ne h (by decide))), (fun h => f8 (upd_ne h (by decide))), (fun h => f9 (upd_ne h (by decide))), (fun h => f10 (upd_ne h (by decide))), (fun h => f11 (upd_ne h (by decide))), (fun h => f12 (upd_ne h (by decide))), (fun h => f13 (upd_ne h (by decide))), (fun h => f14 (upd_ne h (by decide))), (fun _ => rfl)⟩
    case hdone =>
      rintro L ac ww hall ⟨t4, t5, t6, t7, t8, t9, t10, t11, t12, t13, t14, t15, t16, t17, t18, t19, rfl, I0, f0, f1, f2, f3, f4, f5, f6, f7, f8, f9, f10, f11, f12, f13, f14, f15⟩
      have e0 := f0 (hall 0 (by decide))
      have e1 := f1 (hall 1 (by decide))
      have e2 := f2 (hall 2 (by decide))
      have e3 := f3 (hall 3 (by decide))
      have e4 := f4 (hall 4 (by decide))
      have e5 := f5 (hall 5 (by decide))
      have e6 := f6 (hall 6 (by decide))
      have e7 := f7 (hall 7 (by decide))
      have e8 := f8 (hall 8 (by decide))
      have e9 := f9 (hall 9 (by decide))
      have e10 := f10 (hall 10 (by decide))
      have e11 := f11 (hall 11 (by decide))
      have e12 := f12 (hall 12 (by decide))
      have e13 := f13 (hall 13 (by decide))
      have e14 := f14 (hall 14 (by decide))
      have e15 := f15 (hall 15 (by decide))
      clear f0 f1 f2 f3 f4 f5 f6 f7 f8 f9 f10 f11 f12 f13 f14 f15
      subst e15
      have bbf := b0.trans (I0.mono b0.size)
      clear e0 e1 e2 e3 e4 e5 e6 e7 e8 e9 e10 e11 e12 e13 e14
      go_wp2_with fail
      go_ret
      exact ⟨by rw [HSV.out]; rfl, bbf⟩
  · have HSV := Lib.hid (show Hps.sameV a b = decide (Hps.viewH a = Hps.viewH b) from by rw [Hps.sameV, hva, Bool.true_and])
    have HVA := Lib.hid hva
    have HVB := Lib.hid hvb
    clear hva hvb
    go_enter Try.func19, Try.ntmps19
    go_upto_region 1 with fail
    generalize (w.alloc (.cells #[.slice A n c, .slice R m d] 26)).alloc (.cells #[.slice A' n' c', .slice R' m' d'] 26) = w3 at b0 r0 s0 p0 q0 ⊢
    have hpl := p0.lt
    have hql := q0.lt
    have x0 : w3.cell? ⟨w.heap.size, 0, none⟩ = some (.slice A n c) := p0.cell 0
    have x1 : w3.cell? ⟨w.heap.size, 1, none⟩ = some (.slice R m d) := p0.cell 1
    have y0 : w3.cell? ⟨w.heap.size + 1, 0, none⟩ = some (.slice A' n' c') := q0.cell 0
    have y1 : w3.cell? ⟨w.heap.size + 1, 1, none⟩ = some (.slice R' m' d') := q0.cell 1
    refine wp_region_inv (by kernel_rfl) (by kernel_rfl) (fun L ac ww => ∃ t4 t5 t6 t7 t8 t9 t10 t11 t12 t13 t14 t15 t16 t17 t18 t19 : Value, ac = { tmps := #[heapV A n c R m d, heapV A' n' c' R' m' d', Value.pointer (some { block := w.heap.size, off := 0 }), Value.pointer (some { block := w.heap.size + 1, off := 0 }), t4, t5, t6, t7, t8, t9, t10, t11, t12, t13, t14, t15, t16, t17, t18, t19], defers := [] } ∧ (Below w3.heap.size w3 ww) ∧ (L 0 = true → t5 = .agg #[.slice A n c, .slice R m d]) ∧ (L 1 = true → t6 = .bool true) ∧ (L 2 = true → t7 = .bool true) ∧ (L 3 = true → t8 = .agg #[.slice A' n' c', .slice R' m' d']) ∧ (L 4 = true → t9 = .bool true) ∧ (L 5 = true → t10 = .bool true) ∧ (L 6 = true → t11 = .bool true) ∧ (L 7 = true → t12 = .agg #[.slice A n c, .slice R m d]) ∧ (L 8 = true → ∃ (A1 : Option Addr) (n1 c1 : Nat) (A2 : Option Addr) (n2 c2 : Nat) (A3 : Option Addr) (n3 c3 : Nat), t13 = .agg #[.slice A1 n1 c1, .slice A2 n2 c2, .slice A3 n3 c3] ∧ IS ww ww.heap.size A3 n3 (Hps.viewH a)) ∧ (L 9 = true → ∃ (A3 : Option Addr) (n3 c3 : Nat), t14 = .slice A3 n3 c3 ∧ IS ww ww.heap.size A3 n3 (Hps.viewH a)) ∧ (L 10 = true → t15 = .agg #[.slice A' n' c', .slice R' m' d']) ∧ (L 11 = true → ∃ (A1 : Option Addr) (n1 c1 : Nat) (A2 : Option Addr) (n2 c2 : Nat) (A3 : Option Addr) (n3 c3 : Nat), t16 = .agg #[.slice A1 n1 c1, .slice A2 n2 c2, .slice A3 n3 c3] ∧ IS ww ww.heap.size A3 n3 (Hps.viewH b)) ∧ (L 12 = true → ∃ (A3 : Option Addr) (n3 c3 : Nat), t17 = .slice A3 n3 c3 ∧ IS ww ww.heap.size A3 n3 (Hps.viewH b)) ∧ (L 13 = true → t18 = .bool (decide (Hps.viewH a = Hps.viewH b))) ∧ (L 14 = true → t19 = .bool (decide (Hps.viewH a = Hps.viewH b))) ∧ (L 15 = true → t4 = .bool (decide (Hps.viewH a = Hps.viewH b)))) ?h0 ?hstep ?hdone
    case h0 => exact ⟨_, _, _, _, _, _, _, _, _, _, _, _, _, _, _, _, rfl, (Below.refl _ _).drew, (fun h => absurd h Bool.false_ne_true), (fun h => absurd h Bool.false_ne_true), (fun h => absurd h Bool.false_ne_true), (fun h => absurd h Bool.false_ne_true), (fun h => absurd h Bool.false_ne_true), (fun h => absurd h Bool.false_ne_true), (fun h => absurd h Bool.false_ne_true), (fun h => absurd h Bool.false_ne_true), (fun h => absurd h Bool.false_ne_true), (fun h => absurd h Bool.false_ne_true), (fun h => absurd h Bool.false_ne_true), (fun h => absurd h Bool.false_ne_true), (fun h => absurd h Bool.false_ne_true), (fun h => absurd h Bool.false_ne_true), (fun h => absurd h Bool.false_ne_true), (fun h => absurd h Bool.false_ne_true)⟩
    case hstep =>
      rintro L ac ww i o ho hL hd ⟨t4, t5, t6, t7, t8, t9, t10, t11, t12, t13, t14, t15, t16, t17, t18, t19, rfl, I0, f0, f1, f2, f3, f4, f5, f6, f7, f8, f9, f10, f11, f12, f13, f14, f15⟩
      have hi : i < 16 := (Array.getElem?_eq_some_iff.1 ho).1
      obtain rfl | rfl | rfl | rfl | rfl | rfl | rfl | rfl | rfl | rfl | rfl | rfl | rfl | rfl | rfl | rfl : i = 0 ∨ i = 1 ∨ i = 2 ∨ i = 3 ∨ i = 4 ∨ i = 5 ∨ i = 6 ∨ i = 7 ∨ i = 8 ∨ i = 9 ∨ i = 10 ∨ i = 11 ∨ i = 12 ∨ i = 13 ∨ i = 14 ∨ i = 15 := by omega
      · obtain rfl := Option.some.inj ho
        have z0 : ww.cell? ⟨w.heap.size, 0, none⟩ = some (.slice A n c) := (I0.cell (p := ⟨w.heap.size, 0, none⟩) hpl).trans x0
        have z1 : ww.cell? ⟨w.heap.size, 1, none⟩ = some (.slice R m d) := (I0.cell (p := ⟨w.heap.size, 1, none⟩) hpl).trans x1
        refine wpOp_step rfl (fun K' hK => ?_)
        go_simp
        refine hK _ _ ?_
        exact ⟨_, _, _, _, _, _, _, _, _, _, _, _, _, _, _, _, rfl, (I0), (fun _ => rfl), (fun h => f1 (upd_ne h (by decide))), (fun h => f2 (upd_ne h (by decide))), (fun h => f3 (upd_ne h (by decide))), (fun h => f4 (upd_ne h (by decide))), (fun h => f5 (upd_ne h (by decide))), (fun h => f6 (upd_ne h (by decide))), (fun h => f7 (upd_ne h (by decide))), (fun h => f8 (upd_ne h (by decide))), (fun h => f9 (upd_ne h (by decide))), (fun h => f10 (upd_ne h (by decide))), (fun h => f11 (upd_ne h (by decide))), (fun h => f12 (upd_ne h (by decide))), (fun h => f13 (upd_ne h (by decide))), (fun h => f14 (upd_ne h (by decide))), (fun h => f15 (upd_ne h (by decide)))⟩
      · obtain rfl := Option.some.inj ho
        have g0 := f0 (hd ⟨0, .data⟩ (by simp) rfl)
        subst g0
        refine wpOp_step rfl (fun K' hK => ?_)
        go_simp
        refine (heapValid_any _ _ _ _ _ _ a ww (r0.up I0) hn hm hc hmd).mono ?_
        rw [HVA.out]
        rintro e w' ⟨rfl, b5⟩
        refine hK _ _ ?_
        exact ⟨_, _, _, _, _, _, _, _, _, _, _, _, _, _, _, _, rfl, (I0.trans (b5.mono I0.size)), (fun h => f0 (upd_ne h (by decide))), (fun _ => rfl), (fun h => f2 (upd_ne h (by decide))), (fun h => f3 (upd_ne h (by decide))), (fun h => f4 (upd_ne h (by decide))), (fun h => f5 (upd_ne h (by decide))), (fun h => f6 (upd_ne h (by decide))), (fun h => f7 (upd_ne h (by decide))), (fun h => by
          obtain ⟨u0, u1, u2, u3, u4, u5, u6, u7, u8, e, r⟩ := f8 (upd_ne h (by decide))
          exact ⟨u0, u1, u2, u3, u4, u5, u6, u7, u8, e, r.up b5⟩), (fun h => by
          obtain ⟨u0, u1, u2, e, r⟩ := f9 (upd_ne h (by decide))
          exact ⟨u0, u1, u2, e, r.up b5⟩), (fun h => f10 (upd_ne h (by decide))), (fun h => by
          obtain ⟨u0, u1, u2, u3, u4, u5, u6, u7, u8, e, r⟩ := f11 (upd_ne h (by decide))
          exact ⟨u0, u1, u2, u3, u4, u5, u6, u7, u8, e, r.up b5⟩), (fun h => by
          obtain ⟨u0, u1, u2, e, r⟩ := f12 (upd_ne h (by decide))
          exact ⟨u0, u1, u2, e, r.up b5⟩), (fun h => f13 (upd_ne h (by decide))), (fun h => f14 (upd_ne h (by decide))), (fun h => f15 (upd_ne h (by decide)))⟩
      · obtain rfl := Option.some.inj ho
        have g1 := f1 (hd ⟨1, .data⟩ (by simp) rfl)
        subst g1
        refine wpOp_step rfl (fun K' hK => ?_)
        go_simp
        refine hK _ _ ?_
        exact ⟨_, _, _, _, _, _, _, _, _, _, _, _, _, _, _, _, rfl, (I0), (fun h => f0 (upd_ne h (by decide))), (fun h => f1 (upd_ne h (by decide))), (fun _ => rfl), (fun h => f3 (upd_ne h (by decide))), (fun h => f4 (upd_ne h (by decide))), (fun h => f5 (upd_ne h (by decide))), (fun h => f6 (upd_ne h (by decide))), (fun h => f7 (upd_ne h (by decide))), (fun h => f8 (upd_ne h (by decide))), (fun h => f9 (upd_ne h (by decide))), (fun h => f10 (upd_ne h (by decide))), (fun h => f11 (upd_ne h (by decide))), (fun h => f12 (upd_ne h (by decide))), (fun h => f13 (upd_ne h (by decide))), (fun h => f14 (upd_ne h (by decide))), (fun h => f15 (upd_ne h (by decide)))⟩
      · obtain rfl := Option.some.inj ho
        have g2 := f2 (hd ⟨2, .guard⟩ (by simp) rfl)
        subst g2
        have z0 : ww.cell? ⟨w.heap.size + 1, 0, none⟩ = some (.slice A' n' c') := (I0.cell (p := ⟨w.heap.size + 1, 0, none⟩) hql).trans y0
        have z1 : ww.cell? ⟨w.heap.size + 1, 1, none⟩ = some (.slice R' m' d') := (I0.cell (p := ⟨w.heap.size + 1, 1, none⟩) hql).trans y1
        refine wpOp_step rfl (fun K' hK => ?_)
        go_simp
        refine hK _ _ ?_
        exact ⟨_, _, _, _, _, _, _, _, _, _, _, _, _, _, _, _, rfl, (I0), (fun h => f0 (upd_ne h (by decide))), (fun h => f1 (upd_ne h (by decide))), (fun h => f2 (upd_ne h (by decide))), (fun _ => rfl), (fun h => f4 (upd_ne h (by decide))), (fun h => f5 (upd_ne h (by decide))), (fun h => f6 (upd_ne h (by decide))), (fun h => f7 (upd_ne h (by decide))), (fun h => f8 (upd_ne h (by decide))), (fun h => f9 (upd_ne h (by decide))), (fun h => f10 (upd_ne h (by decide))), (fun h => f11 (upd_ne h (by decide))), (fun h => f12 (upd_ne h (by decide))), (fun h => f13 (upd_ne h (by decide))), (fun h => f14 (upd_ne h (by decide))), (fun h => f15 (upd_ne h (by decide)))⟩
      · obtain rfl := Option.some.inj ho
        have g3 := f3 (hd ⟨3, .data⟩ (by simp) rfl)
        subst g3
        have g2 := f2 (hd ⟨2, .guard⟩ (by simp) rfl)
        subst g2
        refine wpOp_step rfl (fun K' hK => ?_)
        go_simp
        refine (heapValid_any _ _ _ _ _ _ b ww (s0.up I0) hn' hm' hc' hd').mono ?_
        rw [HVB.out]
        rintro e w' ⟨rfl, b5⟩
        refine hK _ _ ?_
        exact ⟨_, _, _, _, _, _, _, _, _, _, _, _, _, _, _, _, rfl, (I0.trans (b5.mono I0.size)), (fun h => f0 (upd_ne h (by decide))), (fun h => f1 (upd_ne h (by decide))), (fun h => f2 (upd_ne h (by decide))), (fun h => f3 (upd_ne h (by decide))), (fun _ => rfl), (fun h => f5 (upd_ne h (by decide))), (fun h => f6 (upd_ne h (by decide))), (fun h => f7 (upd_ne h (by decide))), (fun h => by
          obtain ⟨u0, u1, u2, u3, u4, u5, u6, u7, u8, e, r⟩ := f8 (upd_ne h (by decide))
          exact ⟨u0, u1, u2, u3, u4, u5, u6, u7, u8, e, r.up b5⟩), (fun h => by
          obtain ⟨u0, u1, u2, e, r⟩ := f9 (upd_ne h (by decide))
          exact ⟨u0, u1, u2, e, r.up b5⟩), (fun h => f10 (upd_ne h (by decide))), (fun h => by
          obtain ⟨u0, u1, u2, u3, u4, u5, u6, u7, u8, e, r⟩ := f11 (upd_ne h (by decide))
          exact ⟨u0, u1, u2, u3, u4, u5, u6, u7, u8, e, r.up b5⟩), (fun h => by
          obtain ⟨u0, u1, u2, e, r⟩ := f12 (upd_ne h (by decide))
          exact ⟨u0, u1, u2, e, r.up b5⟩), (fun h => f13 (upd_ne h (by decide))), (fun h => f14 (upd_ne h (by decide))), (fun h => f15 (upd_ne h (by decide)))⟩
      · obtain rfl := Option.some.inj ho
        have g2 := f2 (hd ⟨2, .data⟩ (by simp) rfl)
        have g4 := f4 (hd ⟨4, .data⟩ (by simp) rfl)
        subst g2
        subst g4
        refine wpOp_step rfl (fun K' hK => ?_)
        go_simp
        refine hK _ _ ?_
        exact ⟨_, _, _, _, _, _, _, _, _, _, _, _, _, _, _, _, rfl, (I0), (fun h => f0 (upd_ne h (by decide))), (fun h => f1 (upd_ne h (by decide))), (fun h => f2 (upd_ne h (by decide))), (fun h => f3 (upd_ne h (by decide))), (fun h => f4 (upd_ne h (by decide))), (fun _ => rfl), (fun h => f6 (upd_ne h (by decide))), (fun h => f7 (upd_ne h (by decide))), (fun h => f8 (upd_ne h (by decide))), (fun h => f9 (upd_ne h (by decide))), (fun h => f10 (upd_ne h (by decide))), (fun h => f11 (upd_ne h (by decide))), (fun h => f12 (upd_ne h (by decide))), (fun h => f13 (upd_ne h (by decide))), (fun h => f14 (upd_ne h (by decide))), (fun h => f15 (upd_ne h (by decide)))⟩
      · obtain rfl := Option.some.inj ho
        have g5 := f5 (hd ⟨5, .data⟩ (by simp) rfl)
        subst g5
        refine wpOp_step rfl (fun K' hK => ?_)
        go_simp
        refine hK _ _ ?_
        exact ⟨_, _, _, _, _, _, _, _, _, _, _, _, _, _, _, _, rfl, (I0), (fun h => f0 (upd_ne h (by decide))), (fun h => f1 (upd_ne h (by decide))), (fun h => f2 (upd_ne h (by decide))), (fun h => f3 (upd_ne h (by decide))), (fun h => f4 (upd_ne h (by decide))), (fun h => f5 (upd_ne h (by decide))), (fun _ => rfl), (fun h => f7 (upd_ne h (by decide))), (fun h => f8 (upd_ne h (by decide))), (fun h => f9 (upd_ne h (by decide))), (fun h => f10 (upd_ne h (by decide))), (fun h => f11 (upd_ne h (by decide))), (fun h => f12 (upd_ne h (by decide))), (fun h => f13 (upd_ne h (by decide))), (fun h => f14 (upd_ne h (by decide))), (fun h => f15 (upd_ne h (by decide)))⟩
      · obtain rfl := Option.some.inj ho
        have g6 := f6 (hd ⟨6, .guard⟩ (by simp) rfl)
        subst g6
        have z0 : ww.cell? ⟨w.heap.size, 0, none⟩ = some (.slice A n c) := (I0.cell (p := ⟨w.heap.size, 0, none⟩) hpl).trans x0
        have z1 : ww.cell? ⟨w.heap.size, 1, none⟩ = some (.slice R m d) := (I0.cell (p := ⟨w.heap.size, 1, none⟩) hpl).trans x1
        refine wpOp_step rfl (fun K' hK => ?_)
        go_simp
        refine hK _ _ ?_
        exact ⟨_, _, _, _, _, _, _, _, _, _, _, _, _, _, _, _, rfl, (I0), (fun h => f0 (upd_ne h (by decide))), (fun h => f1 (upd_ne h (by decide))), (fun h => f2 (upd_ne h (by decide))), (fun h => f3 (upd_ne h (by decide))), (fun h => f4 (upd_ne h (by decide))), (fun h => f5 (upd_ne h (by decide))), (fun h => f6 (upd_ne h (by decide))), (fun _ => rfl), (fun h => f8 (upd_ne h (by decide))), (fun h => f9 (upd_ne h (by decide))), (fun h => f10 (upd_ne h (by decide))), (fun h => f11 (upd_ne h (by decide))), (fun h => f12 (upd_ne h (by decide))), (fun h => f13 (upd_ne h (by decide))), (fun h => f14 (upd_ne h (by decide))), (fun h => f15 (upd_ne h (by decide)))⟩
      · obtain rfl := Option.some.inj ho
        have g7 := f7 (hd ⟨7, .data⟩ (by simp) rfl)
        subst g7
        have g6 := f6 (hd ⟨6, .guard⟩ (by simp) rfl)
        subst g6
        refine wpOp_step rfl (fun K' hK => ?_)
        go_simp
        refine (encoded_any _ _ _ _ _ _ a ww (r0.up I0) HVA.out).mono ?_
        rintro e w' ⟨ov, N2, n2, c2, vv, rfl, o1, o2, b5⟩
        obtain ⟨A1, c1, e1, -⟩ := o1.form
        subst e1
        obtain ⟨A3, c3, e3, -⟩ := o2.form
        subst e3
        have R3 := o2.reads
        refine hK _ _ ?_
        exact ⟨_, _, _, _, _, _, _, _, _, _, _, _, _, _, _, _, rfl, (I0.trans (b5.mono I0.size)), (fun h => f0 (upd_ne h (by decide))), (fun h => f1 (upd_ne h (by decide))), (fun h => f2 (upd_ne h (by decide))), (fun h => f3 (upd_ne h (by decide))), (fun h => f4 (upd_ne h (by decide))), (fun h => f5 (upd_ne h (by decide))), (fun h => f6 (upd_ne h (by decide))), (fun h => f7 (upd_ne h (by decide))), (fun _ => ⟨_, _, _, _, _, _, _, _, _, rfl, R3⟩), (fun h => by
          obtain ⟨u0, u1, u2, e, r⟩ := f9 (upd_ne h (by decide))
          exact ⟨u0, u1, u2, e, r.up b5⟩), (fun h => f10 (upd_ne h (by decide))), (fun h => by
          obtain ⟨u0, u1, u2, u3, u4, u5, u6, u7, u8, e, r⟩ := f11 (upd_ne h (by decide))
          exact ⟨u0, u1, u2, u3, u4, u5, u6, u7, u8, e, r.up b5⟩), (fun h => by
          obtain ⟨u0, u1, u2, e, r⟩ := f12 (upd_ne h (by decide))
          exact ⟨u0, u1, u2, e, r.up b5⟩), (fun h => f13 (upd_ne h (by decide))), (fun h => f14 (upd_ne h (by decide))), (fun h => f15 (upd_ne h (by decide)))⟩
      · obtain rfl := Option.some.inj ho
        have g8 := f8 (hd ⟨8, .data⟩ (by simp) rfl)
        have g6 := f6 (hd ⟨6, .guard⟩ (by simp) rfl)
        subst g6
        obtain ⟨A1, n1, c1, A2, n2, c2, A3, n3, c3, e, R3⟩ := g8
        subst e
        have F0 := field_enc1 A1 A2 A3 n1 c1 n2 c2 n3 c3
        refine wpOp_step rfl (fun K' hK => ?_)
        go_simp
        refine hK _ _ ?_
        exact ⟨_, _, _, _, _, _, _, _, _, _, _, _, _, _, _, _, rfl, (I0), (fun h => f0 (upd_ne h (by decide))), (fun h => f1 (upd_ne h (by decide))), (fun h => f2 (upd_ne h (by decide))), (fun h => f3 (upd_ne h (by decide))), (fun h => f4 (upd_ne h (by decide))), (fun h => f5 (upd_ne h (by decide))), (fun h => f6 (upd_ne h (by decide))), (fun h => f7 (upd_ne h (by decide))), (fun _ => ⟨_, _, _, _, _, _, _, _, _, rfl, R3⟩), (fun _ => ⟨_, _, _, rfl, R3⟩), (fun h => f10 (upd_ne h (by decide))), (fun h => f11 (upd_ne h (by decide))), (fun h => f12 (upd_ne h (by decide))), (fun h => f13 (upd_ne h (by decide))), (fun h => f14 (upd_ne h (by decide))), (fun h => f15 (upd_ne h (by decide)))⟩
      · obtain rfl := Option.some.inj ho
        have g6 := f6 (hd ⟨6, .guard⟩ (by simp) rfl)
        subst g6
        have z0 : ww.cell? ⟨w.heap.size + 1, 0, none⟩ = some (.slice A' n' c') := (I0.cell (p := ⟨w.heap.size + 1, 0, none⟩) hql).trans y0
        have z1 : ww.cell? ⟨w.heap.size + 1, 1, none⟩ = some (.slice R' m' d') := (I0.cell (p := ⟨w.heap.size + 1, 1, none⟩) hql).trans y1
        refine wpOp_step rfl (fun K' hK => ?_)
        go_simp
        refine hK _ _ ?_
        exact ⟨_, _, _, _, _, _, _, _, _, _, _, _, _, _, _, _, rfl, (I0), (fun h => f0 (upd_ne h (by decide))), (fun h => f1 (upd_ne h (by decide))), (fun h => f2 (upd_ne h (by decide))), (fun h => f3 (upd_ne h (by decide))), (fun h => f4 (upd_ne h (by decide))), (fun h => f5 (upd_ne h (by decide))), (fun h => f6 (upd_ne h (by decide))), (fun h => f7 (upd_ne h (by decide))), (fun h => f8 (upd_ne h (by decide))), (fun h => f9 (upd_ne h (by decide))), (fun _ => rfl), (fun h => f11 (upd_ne h (by decide))), (fun h => f12 (upd_ne h (by decide))), (fun h => f13 (upd_ne h (by decide))), (fun h => f14 (upd_ne h (by decide))), (fun h => f15 (upd_ne h (by decide)))⟩
      · obtain rfl := Option.some.inj ho
        have g10 := f10 (hd ⟨10, .data⟩ (by simp) rfl)
        subst g10
        have g6 := f6 (hd ⟨6, .guard⟩ (by simp) rfl)
        subst g6
        refine wpOp_step rfl (fun K' hK => ?_)
        go_simp
        refine (encoded_any _ _ _ _ _ _ b ww (s0.up I0) HVB.out).mono ?_
        rintro e w' ⟨ov, N2, n2, c2, vv, rfl, o1, o2, b5⟩
        obtain ⟨A1, c1, e1, -⟩ := o1.form
        subst e1
        obtain ⟨A3, c3, e3, -⟩ := o2.form
        subst e3
        have R3 := o2.reads
        refine hK _ _ ?_
        exact ⟨_, _, _, _, _, _, _, _, _, _, _, _, _, _, _, _, rfl, (I0.trans (b5.mono I0.size)), (fun h => f0 (upd_ne h (by decide))), (fun h => f1 (upd_ne h (by decide))), (fun h => f2 (upd_ne h (by decide))), (fun h => f3 (upd_ne h (by decide))), (fun h => f4 (upd_ne h (by decide))), (fun h => f5 (upd_ne h (by decide))), (fun h => f6 (upd_ne h (by decide))), (fun h => f7 (upd_ne h (by decide))), (fun h => by
          obtain ⟨u0, u1, u2, u3, u4, u5, u6, u7, u8, e, r⟩ := f8 (upd_ne h (by decide))
          exact ⟨u0, u1, u2, u3, u4, u5, u6, u7, u8, e, r.up b5⟩), (fun h => by
          obtain ⟨u0, u1, u2, e, r⟩ := f9 (upd_ne h (by decide))
          exact ⟨u0, u1, u2, e, r.up b5⟩), (fun h => f10 (upd_ne h (by decide))), (fun _ => ⟨_, _, _, _, _, _, _, _, _, rfl, R3⟩), (fun h => by
          obtain ⟨u0, u1, u2, e, r⟩ := f12 (upd_ne h (by decide))
          exact ⟨u0, u1, u2, e, r.up b5⟩), (fun h => f13 (upd_ne h (by decide))), (fun h => f14 (upd_ne h (by decide))), (fun h => f15 (upd_ne h (by decide)))⟩
      · obtain rfl := Option.some.inj ho
        have g11 := f11 (hd ⟨11, .data⟩ (by simp) rfl)
        have g6 := f6 (hd ⟨6, .guard⟩ (by simp) rfl)
        subst g6
        obtain ⟨A1, n1, c1, A2, n2, c2, A3, n3, c3, e, R3⟩ := g11
        subst e
        have F0 := field_enc1 A1 A2 A3 n1 c1 n2 c2 n3 c3
        refine wpOp_step rfl (fun K' hK => ?_)
        go_simp
        refine hK _ _ ?_
        exact ⟨_, _, _, _, _, _, _, _, _, _, _, _, _, _, _, _, rfl, (I0), (fun h => f0 (upd_ne h (by decide))), (fun h => f1 (upd_ne h (by decide))), (fun h => f2 (upd_ne h (by decide))), (fun h => f3 (upd_ne h (by decide))), (fun h => f4 (upd_ne h (by decide))), (fun h => f5 (upd_ne h (by decide))), (fun h => f6 (upd_ne h (by decide))), (fun h => f7 (upd_ne h (by decide))), (fun h => f8 (upd_ne h (by decide))), (fun h => f9 (upd_ne h (by decide))), (fun h => f10 (upd_ne h (by decide))), (fun _ => ⟨_, _, _, _, _, _, _, _, _, rfl, R3⟩), (fun _ => ⟨_, _, _, rfl, R3⟩), (fun h => f13 (upd_ne h (by decide))), (fun h => f14 (upd_ne h (by decide))), (fun h => f15 (upd_ne h (by decide)))⟩
      · obtain rfl := Option.some.inj ho
        have g9 := f9 (hd ⟨9, .data⟩ (by simp) rfl)
        have g12 := f12 (hd ⟨12, .data⟩ (by simp) rfl)
        have g6 := f6 (hd ⟨6, .guard⟩ (by simp) rfl)
        subst g6
        obtain ⟨A3, n3, c3, e, R3⟩ := g9
        subst e
        obtain ⟨B3, m3, d3, e, R4⟩ := g12
        subst e
        have l3 := R3.1
        have l4 := R4.1
        refine wpOp_step rfl (fun K' hK => ?_)
        go_simp
        refine (equalI_any _ _ _ _ _ _ _ _ ww R3 R4 (by have := HLA.out; omega) (by have := HLB.out; omega)).mono ?_
        rintro e w' ⟨rfl, b5⟩
        refine hK _ _ ?_
        exact ⟨_, _, _, _, _, _, _, _, _, _, _, _, _, _, _, _, rfl, (I0.trans (b5.mono I0.size)), (fun h => f0 (upd_ne h (by decide))), (fun h => f1 (upd_ne h (by decide))), (fun h => f2 (upd_ne h (by decide))), (fun h => f3 (upd_ne h (by decide))), (fun h => f4 (upd_ne h (by decide))), (fun h => f5 (upd_ne h (by decide))), (fun h => f6 (upd_ne h (by decide))), (fun h => f7 (upd_ne h (by decide))), (fun h => by
          obtain ⟨u0, u1, u2, u3, u4, u5, u6, u7, u8, e, r⟩ := f8 (upd_ne h (by decide))
          exact ⟨u0, u1, u2, u3, u4, u5, u6, u7, u8, e, r.up b5⟩), (fun _ => ⟨_, _, _, rfl, R3.up b5⟩), (fun h => f10 (upd_ne h (by decide))), (fun h => by
          obtain ⟨u0, u1, u2, u3, u4, u5, u6, u7, u8, e, r⟩ := f11 (upd_ne h (by decide))
          exact ⟨u0, u1, u2, u3, u4, u5, u6, u7, u8, e, r.up b5⟩), (fun _ => ⟨_, _, _, rfl, R4.up b5⟩), (fun _ => rfl), (fun h => f14 (upd_ne h (by decide))), (fun h => f15 (upd_ne h (by decide)))⟩
      · obtain rfl := Option.some.inj ho
        have g6 := f6 (hd ⟨6, .data⟩ (by simp) rfl)
        have g13 := f13 (hd ⟨13, .data⟩ (by simp) rfl)
        subst g6
        subst g13
        refine wpOp_step rfl (fun K' hK => ?_)
        go_simp
        refine hK _ _ ?_
        exact ⟨_, _, _, _, _, _, _, _, _, _, _, _, _, _, _, _, rfl, (I0), (fun h => f0 (upd_ne h (by decide))), (fun h => f1 (upd_ne h (by decide))), (fun h => f2 (upd_ne h (by decide))), (fun h => f3 (upd_ne h (by decide))), (fun h => f4 (upd_ne h (by decide))), (fun h => f5 (upd_ne h (by decide))), (fun h => f6 (upd_ne h (by decide))), (fun h => f7 (upd_ne h (by decide))), (fun h => f8 (upd_ne h (by decide))), (fun h => f9 (upd_ne h (by decide))), (fun h => f10 (upd_ne h (by decide))), (fun h => f11 (upd_ne h (by decide))), (fun h => f12 (upd_ne h (by decide))), (fun h => f13 (upd_ne h (by decide))), (fun _ => rfl), (fun h => f15 (upd_ne h (by decide)))⟩
      · obtain rfl := Option.some.inj ho
        have g14 := f14 (hd ⟨14, .data⟩ (by simp) rfl)
        subst g14
        refine wpOp_step rfl (fun K' hK => ?_)
        go_simp
        refine hK _ _ ?_
        exact ⟨_, _, _, _, _, _, _, _, _, _, _, _, _, _, _, _, rfl, (I0), (fun h => f0 (upd_ne h (by decide))), (fun h => f1 (upd_ne h (by decide))), (fun h => f2 (upd_ne h (by decide))), (fun h => f3 (upd_ne h (by decide))), (fun h => f4 (upd_ne h (by decide))), (fun h => f5 (upd_ne h (by decide))), (fun h => f6 (upd_ne h (by decide))), (fun h => f7 (upd_ne h (by decide))), (fun h => f8 (upd_ne h (by decide))), (fun h => f9 (upd_ne h (by decide))), (fun h => f10 (upd_ne h (by decide))), (fun h => f11 (upd_ne h (by decide))), (fun h => f12 (upd_ne h (by decide))), (fun h => f13 (upd_ne h (by decide))), (fun h => f14 (upd_ne h (by decide))), (fun _ => rfl)⟩
    case hdone =>
      rintro L ac ww hall ⟨t4, t5, t6, t7, t8, t9, t10, t11, t12, t13, t14, t15, t16, t17, t18, t19, rfl, I0, f0, f1, f2, f3, f4, f5, f6, f7, f8, f9, f10, f11, f12, f13, f14, f15⟩
      have e0 := f0 (hall 0 (by decide))
      have e1 := f1 (hall 1 (by decide))
      have e2 := f2 (hall 2 (by decide))
      have e3 := f3 (hall 3 (by decide))
      have e4 := f4 (hall 4 (by decide))
      have e5 := f5 (hall 5 (by decide))
      have e6 := f6 (hall 6 (by decide))
      have e7 := f7 (hall 7 (by decide))
      have e8 := f8 (hall 8 (by decide))
      have e9 := f9 (hall 9 (by decide))
      have e10 := f10 (hall 10 (by decide))
      have e11 := f11 (hall 11 (by decide))
      have e12 := f12 (hall 12 (by decide))
      have e13 := f13 (hall 13 (by decide))
      have e14 := f14 (hall 14 (by decide))
      have e15 := f15 (hall 15 (by decide))
      clear f0 f1 f2 f3 f4 f5 f6 f7 f8 f9 f10 f11 f12 f13 f14 f15
      subst e15
      have bbf := b0.trans (I0.mono b0.size)
      clear e0 e1 e2 e3 e4 e5 e6 e7 e8 e9 e10 e11 e12 e13 e14
      go_wp2_with fail
      go_ret
      exact ⟨by rw [HSV.out]; rfl, bbf⟩
end Go.Proofs.Ytbcefmkgifkjiaa
