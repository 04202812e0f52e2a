/- What the program's CountedValid returns: for every heap with counts. No conditions. -/
import Derived.Test.YtijgfpcpkmpdpaaCc
import Derived.Test.YtijgfpcpkmpdpaaHs
import Derived.Test.YtijgfpcpkmpdpaaVq
import Derived.Deep.Cut
namespace Go.Proofs.Ytijgfpcpkmpdpaa
open Go.RowKit
set_option maxRecDepth 100000


set_option maxHeartbeats 4000000 in
theorem countedValid_any (A R K : Option Addr) (n c m d p q : Nat) (h : Hp) (l : List Int) (w : World) (hs : HS w w.heap.size A n R m h) (hk : IS w w.heap.size K p l) (hn : n ≤ 1099511627776) (hm : m ≤ 1099511627776) (hp : p ≤ 1099511627776) (hnc : n ≤ c) (hmd : m ≤ d) :
    Calls Try.prog 37 #[ctV A n c R m d K p q] w fun e w' => e = .returned (.bool (Hps.okCt h l)) ∧ Below w.heap.size w w' := by
  have b0 : Below w.heap.size w (w.alloc (.cells #[.slice A n c, .slice R m d, .slice K p q] 50)) := (Below.refl _ _).alloc (Nat.le_refl _) _
  have r0 := hs.up b0
  have k0 := hk.up b0
  have Q0 := Rw.new w 50 #[.slice A n c, .slice R m d, .slice K p q]
  obtain ⟨v, hv⟩ : ∃ v, Hps.validH h = v := ⟨_, rfl⟩
  have HOK := Lib.hid (show Hps.okCt h l = (v && decide (l = Hps.countsH h)) by
    rw [Hps.okCt_eq, hv]
    congr 1
    exact decide_eq_decide.2 ⟨fun e => e.symm, fun e => e.symm⟩)
  have HV := Lib.hid hv
  have HL := Hps.countsH_len h
  rw [hs.cells.1] at HL
  clear hv
  go_enter Try.func37, Try.ntmps37
  go_upto_region 1 with fail
  generalize w.alloc (.cells #[.slice A n c, .slice R m d, .slice K p q] 50) = w2 at b0 r0 k0 Q0 ⊢
  generalize hbq : w.heap.size = b at Q0 ⊢
  have HB := Lib.hid hbq
  clear hbq
  have hbl := Q0.lt
  have x0 : w2.cell? ⟨b, 0, none⟩ = some (.slice A n c) := Q0.cell 0
  have x1 : w2.cell? ⟨b, 1, none⟩ = some (.slice R m d) := Q0.cell 1
  have x2 : w2.cell? ⟨b, 2, none⟩ = some (.slice K p q) := Q0.cell 2
  cases v
  · skip
    refine wp_region_inv (by kernel_rfl) (by kernel_rfl) (fun L ac ww => ∃ t2 t3 t4 t5 t6 t7 t8 t9 t10 t11 t12 t13 : Value, ac = { tmps := #[ctV A n c R m d K p q, Value.pointer (some { block := b, off := 0 }), t2, t3, t4, t5, t6, t7, t8, t9, t10, t11, t12, t13], defers := [] } ∧ (Below w2.heap.size w2 ww) ∧ (L 0 = true → t3 = .pointer (some ⟨b, 0, none⟩)) ∧ (L 1 = true → t4 = .agg #[.slice A n c, .slice R m d]) ∧ (L 2 = true → t5 = .bool false) ∧ (L 3 = true → t6 = .bool false) ∧ (L 4 = true → True) ∧ (L 5 = true → True) ∧ (L 6 = true → True) ∧ (L 7 = true → True) ∧ (L 8 = true → True) ∧ (L 9 = true → True) ∧ (L 10 = true → t13 = .bool false) ∧ (L 11 = true → t2 = .bool false)) ?h0 ?hstep ?hdone
    case h0 => exact ⟨_, _, _, _, _, _, _, _, _, _, _, _, rfl, (Below.refl _ _).drew, (fun h => absurd h Bool.false_ne_true), (fun h => absurd h Bool.false_ne_true), (fun h => absurd h Bool.false_ne_true), (fun h => absurd h Bool.false_ne_true), (fun h => absurd h Bool.false_ne_true), (fun h => absurd h Bool.false_ne_true), (fun h => absurd h Bool.false_ne_true), (fun h => absurd h Bool.false_ne_true), (fun h => absurd h Bool.false_ne_true), (fun h => absurd h Bool.false_ne_true), (fun h => absurd h Bool.false_ne_true), (fun h => absurd h Bool.false_ne_true)⟩
    case hstep =>
      rintro L ac ww i o ho hL hd ⟨t2, t3, t4, t5, t6, t7, t8, t9, t10, t11, t12, t13, rfl, I0, f0, f1, f2, f3, f4, f5, f6, f7, f8, f9, f10, f11⟩
      have hi : i < 12 := (Array.getElem?_eq_some_iff.1 ho).1
      obtain rfl | rfl | rfl | rfl | rfl | rfl | rfl | rfl | rfl | rfl | rfl | rfl : i = 0 ∨ i = 1 ∨ i = 2 ∨ i = 3 ∨ i = 4 ∨ i = 5 ∨ i = 6 ∨ i = 7 ∨ i = 8 ∨ i = 9 ∨ i = 10 ∨ i = 11 := by omega
      · obtain rfl := Option.some.inj ho
        refine wpOp_step rfl (fun K' hK => ?_)
        go_simp
        refine hK _ _ ?_
        exact ⟨_, _, _, _, _, _, _, _, _, _, _, _, rfl, (I0), (fun _ => rfl), (kp f1), (kp f2), (kp f3), (fun _ => trivial), (fun _ => trivial), (fun _ => trivial), (fun _ => trivial), (fun _ => trivial), (fun _ => trivial), (kp f10), (kp f11)⟩
      · obtain rfl := Option.some.inj ho
        have g0 := f0 (hd ⟨0, .data⟩ (by simp) rfl)
        subst g0
        have z0 : ww.cell? ⟨b, 0, none⟩ = some (.slice A n c) := (I0.cell (p := ⟨b, 0, none⟩) hbl).trans x0
        have z1 : ww.cell? ⟨b, 1, none⟩ = some (.slice R m d) := (I0.cell (p := ⟨b, 1, none⟩) hbl).trans x1
        have z2 : ww.cell? ⟨b, 2, none⟩ = some (.slice K p q) := (I0.cell (p := ⟨b, 2, none⟩) hbl).trans x2
        refine wpOp_step rfl (fun K' hK => ?_)
        go_simp
        refine hK _ _ ?_
        exact ⟨_, _, _, _, _, _, _, _, _, _, _, _, rfl, (I0), (kp f0), (fun _ => rfl), (kp f2), (kp f3), (fun _ => trivial), (fun _ => trivial), (fun _ => trivial), (fun _ => trivial), (fun _ => trivial), (fun _ => trivial), (kp f10), (kp f11)⟩
      · obtain rfl := Option.some.inj ho
        have g1 := f1 (hd ⟨1, .data⟩ (by simp) rfl)
        subst g1
        refine wpOp_step rfl (fun K' hK => ?_)
        go_simp
        refine (heapValid_any _ _ _ _ _ _ h ww (r0.up I0) hn hm hnc hmd).mono ?_
        rw [HV.out]
        rintro e w' ⟨rfl, b5⟩
        refine hK _ _ ?_
        exact ⟨_, _, _, _, _, _, _, _, _, _, _, _, rfl, (I0.trans (b5.mono I0.size)), (kp f0), (kp f1), (fun _ => rfl), (kp f3), (fun _ => trivial), (fun _ => trivial), (fun _ => trivial), (fun _ => trivial), (fun _ => trivial), (fun _ => trivial), (kp f10), (kp f11)⟩
      · obtain rfl := Option.some.inj ho
        have g2 := f2 (hd ⟨2, .data⟩ (by simp) rfl)
        subst g2
        refine wpOp_step rfl (fun K' hK => ?_)
        go_simp
        refine hK _ _ ?_
        exact ⟨_, _, _, _, _, _, _, _, _, _, _, _, rfl, (I0), (kp f0), (kp f1), (kp f2), (fun _ => rfl), (fun _ => trivial), (fun _ => trivial), (fun _ => trivial), (fun _ => trivial), (fun _ => trivial), (fun _ => trivial), (kp f10), (kp f11)⟩
      · obtain rfl := Option.some.inj ho
        have g3 := f3 (hd ⟨3, .guard⟩ (by simp) rfl)
        subst g3
        refine wpOp_step rfl (fun K' hK => ?_)
        go_simp
        refine hK _ _ ?_
        exact ⟨_, _, _, _, _, _, _, _, _, _, _, _, rfl, (I0), (kp f0), (kp f1), (kp f2), (kp f3), (fun _ => trivial), (fun _ => trivial), (fun _ => trivial), (fun _ => trivial), (fun _ => trivial), (fun _ => trivial), (kp f10), (kp f11)⟩
      · obtain rfl := Option.some.inj ho
        have g3 := f3 (hd ⟨3, .guard⟩ (by simp) rfl)
        subst g3
        refine wpOp_step rfl (fun K' hK => ?_)
        go_simp
        refine hK _ _ ?_
        exact ⟨_, _, _, _, _, _, _, _, _, _, _, _, rfl, (I0), (kp f0), (kp f1), (kp f2), (kp f3), (fun _ => trivial), (fun _ => trivial), (fun _ => trivial), (fun _ => trivial), (fun _ => trivial), (fun _ => trivial), (kp f10), (kp f11)⟩
      · obtain rfl := Option.some.inj ho
        have g3 := f3 (hd ⟨3, .guard⟩ (by simp) rfl)
        subst g3
        refine wpOp_step rfl (fun K' hK => ?_)
        go_simp
        refine hK _ _ ?_
        exact ⟨_, _, _, _, _, _, _, _, _, _, _, _, rfl, (I0), (kp f0), (kp f1), (kp f2), (kp f3), (fun _ => trivial), (fun _ => trivial), (fun _ => trivial), (fun _ => trivial), (fun _ => trivial), (fun _ => trivial), (kp f10), (kp f11)⟩
      · obtain rfl := Option.some.inj ho
        have g3 := f3 (hd ⟨3, .guard⟩ (by simp) rfl)
        subst g3
        refine wpOp_step rfl (fun K' hK => ?_)
        go_simp
        refine hK _ _ ?_
        exact ⟨_, _, _, _, _, _, _, _, _, _, _, _, rfl, (I0), (kp f0), (kp f1), (kp f2), (kp f3), (fun _ => trivial), (fun _ => trivial), (fun _ => trivial), (fun _ => trivial), (fun _ => trivial), (fun _ => trivial), (kp f10), (kp f11)⟩
      · obtain rfl := Option.some.inj ho
        have g3 := f3 (hd ⟨3, .guard⟩ (by simp) rfl)
        subst g3
        refine wpOp_step rfl (fun K' hK => ?_)
        go_simp
        refine hK _ _ ?_
        exact ⟨_, _, _, _, _, _, _, _, _, _, _, _, rfl, (I0), (kp f0), (kp f1), (kp f2), (kp f3), (fun _ => trivial), (fun _ => trivial), (fun _ => trivial), (fun _ => trivial), (fun _ => trivial), (fun _ => trivial), (kp f10), (kp f11)⟩
      · obtain rfl := Option.some.inj ho
        have g3 := f3 (hd ⟨3, .guard⟩ (by simp) rfl)
        subst g3
        refine wpOp_step rfl (fun K' hK => ?_)
        go_simp
        refine hK _ _ ?_
        exact ⟨_, _, _, _, _, _, _, _, _, _, _, _, rfl, (I0), (kp f0), (kp f1), (kp f2), (kp f3), (fun _ => trivial), (fun _ => trivial), (fun _ => trivial), (fun _ => trivial), (fun _ => trivial), (fun _ => trivial), (kp f10), (kp f11)⟩
      · obtain rfl := Option.some.inj ho
        have g3 := f3 (hd ⟨3, .data⟩ (by simp) rfl)
        subst g3
        refine wpOp_step rfl (fun K' hK => ?_)
        go_simp
        refine hK _ _ ?_
        exact ⟨_, _, _, _, _, _, _, _, _, _, _, _, rfl, (I0), (kp f0), (kp f1), (kp f2), (kp f3), (fun _ => trivial), (fun _ => trivial), (fun _ => trivial), (fun _ => trivial), (fun _ => trivial), (fun _ => trivial), (fun _ => rfl), (kp f11)⟩
      · obtain rfl := Option.some.inj ho
        have g10 := f10 (hd ⟨10, .data⟩ (by simp) rfl)
        subst g10
        refine wpOp_step rfl (fun K' hK => ?_)
        go_simp
        refine hK _ _ ?_
        exact ⟨_, _, _, _, _, _, _, _, _, _, _, _, rfl, (I0), (kp f0), (kp f1), (kp f2), (kp f3), (fun _ => trivial), (fun _ => trivial), (fun _ => trivial), (fun _ => trivial), (fun _ => trivial), (fun _ => trivial), (kp f10), (fun _ => rfl)⟩
    case hdone =>
      rintro L ac ww hall ⟨t2, t3, t4, t5, t6, t7, t8, t9, t10, t11, t12, t13, rfl, I0, f0, f1, f2, f3, f4, f5, f6, f7, f8, f9, f10, f11⟩
      have e0 := f0 (hall 0 (by decide))
      have e1 := f1 (hall 1 (by decide))
      have e2 := f2 (hall 2 (by decide))
      have e3 := f3 (hall 3 (by decide))
      have e4 := f4 (hall 4 (by decide))
      have e5 := f5 (hall 5 (by decide))
      have e6 := f6 (hall 6 (by decide))
      have e7 := f7 (hall 7 (by decide))
      have e8 := f8 (hall 8 (by decide))
      have e9 := f9 (hall 9 (by decide))
      have e10 := f10 (hall 10 (by decide))
      have e11 := f11 (hall 11 (by decide))
      clear f0 f1 f2 f3 f4 f5 f6 f7 f8 f9 f10 f11
      subst e11
      have bbf := b0.trans (I0.mono b0.size)
      clear I0 e0 e1 e2 e3 e4 e5 e6 e7 e8 e9 e10 hall x0 x1 x2 Q0 r0 k0
      go_wp2_with fail
      go_ret
      exact ⟨by rw [HOK.out]; simp, by have := HB.out; subst this; exact bbf⟩
  · skip
    refine wp_region_inv (by kernel_rfl) (by kernel_rfl) (fun L ac ww => ∃ t2 t3 t4 t5 t6 t7 t8 t9 t10 t11 t12 t13 : Value, ac = { tmps := #[ctV A n c R m d K p q, Value.pointer (some { block := b, off := 0 }), t2, t3, t4, t5, t6, t7, t8, t9, t10, t11, t12, t13], defers := [] } ∧ (Below w2.heap.size w2 ww) ∧ (L 0 = true → t3 = .pointer (some ⟨b, 0, none⟩)) ∧ (L 1 = true → t4 = .agg #[.slice A n c, .slice R m d]) ∧ (L 2 = true → t5 = .bool true) ∧ (L 3 = true → t6 = .bool true) ∧ (L 4 = true → t7 = .pointer (some ⟨b, 2, none⟩)) ∧ (L 5 = true → t8 = .slice K p q) ∧ (L 6 = true → t9 = .pointer (some ⟨b, 0, none⟩)) ∧ (L 7 = true → t10 = .agg #[.slice A n c, .slice R m d]) ∧ (L 8 = true → ∃ A5 n5 c5, t11 = .slice A5 n5 c5 ∧ n5 ≤ 1099511627776 ∧ IS ww ww.heap.size A5 n5 (Hps.countsH h)) ∧ (L 9 = true → t12 = .bool (decide (l = Hps.countsH h))) ∧ (L 10 = true → t13 = .bool (decide (l = Hps.countsH h))) ∧ (L 11 = true → t2 = .bool (decide (l = Hps.countsH h)))) ?h0 ?hstep ?hdone
    case h0 => exact ⟨_, _, _, _, _, _, _, _, _, _, _, _, rfl, (Below.refl _ _).drew, (fun h => absurd h Bool.false_ne_true), (fun h => absurd h Bool.false_ne_true), (fun h => absurd h Bool.false_ne_true), (fun h => absurd h Bool.false_ne_true), (fun h => absurd h Bool.false_ne_true), (fun h => absurd h Bool.false_ne_true), (fun h => absurd h Bool.false_ne_true), (fun h => absurd h Bool.false_ne_true), (fun h => absurd h Bool.false_ne_true), (fun h => absurd h Bool.false_ne_true), (fun h => absurd h Bool.false_ne_true), (fun h => absurd h Bool.false_ne_true)⟩
    case hstep =>
      rintro L ac ww i o ho hL hd ⟨t2, t3, t4, t5, t6, t7, t8, t9, t10, t11, t12, t13, rfl, I0, f0, f1, f2, f3, f4, f5, f6, f7, f8, f9, f10, f11⟩
      have hi : i < 12 := (Array.getElem?_eq_some_iff.1 ho).1
      obtain rfl | rfl | rfl | rfl | rfl | rfl | rfl | rfl | rfl | rfl | rfl | rfl : i = 0 ∨ i = 1 ∨ i = 2 ∨ i = 3 ∨ i = 4 ∨ i = 5 ∨ i = 6 ∨ i = 7 ∨ i = 8 ∨ i = 9 ∨ i = 10 ∨ i = 11 := by omega
      · obtain rfl := Option.some.inj ho
        refine wpOp_step rfl (fun K' hK => ?_)
        go_simp
        refine hK _ _ ?_
        exact ⟨_, _, _, _, _, _, _, _, _, _, _, _, rfl, (I0), (fun _ => rfl), (kp f1), (kp f2), (kp f3), (kp f4), (kp f5), (kp f6), (kp f7), (kp f8), (kp f9), (kp f10), (kp f11)⟩
      · obtain rfl := Option.some.inj ho
        have g0 := f0 (hd ⟨0, .data⟩ (by simp) rfl)
        subst g0
        have z0 : ww.cell? ⟨b, 0, none⟩ = some (.slice A n c) := (I0.cell (p := ⟨b, 0, none⟩) hbl).trans x0
        have z1 : ww.cell? ⟨b, 1, none⟩ = some (.slice R m d) := (I0.cell (p := ⟨b, 1, none⟩) hbl).trans x1
        have z2 : ww.cell? ⟨b, 2, none⟩ = some (.slice K p q) := (I0.cell (p := ⟨b, 2, none⟩) hbl).trans x2
        refine wpOp_step rfl (fun K' hK => ?_)
        go_simp
        refine hK _ _ ?_
        exact ⟨_, _, _, _, _, _, _, _, _, _, _, _, rfl, (I0), (kp f0), (fun _ => rfl), (kp f2), (kp f3), (kp f4), (kp f5), (kp f6), (kp f7), (kp f8), (kp f9), (kp f10), (kp f11)⟩
      · obtain rfl := Option.some.inj ho
        have g1 := f1 (hd ⟨1, .data⟩ (by simp) rfl)
        subst g1
        refine wpOp_step rfl (fun K' hK => ?_)
        go_simp
        refine (heapValid_any _ _ _ _ _ _ h ww (r0.up I0) hn hm hnc hmd).mono ?_
        rw [HV.out]
        rintro e w' ⟨rfl, b5⟩
        refine hK _ _ ?_
        exact ⟨_, _, _, _, _, _, _, _, _, _, _, _, rfl, (I0.trans (b5.mono I0.size)), (kp f0), (kp f1), (fun _ => rfl), (kp f3), (kp f4), (kp f5), (kp f6), (kp f7), (fun h => by
          obtain ⟨A5, n5, c5, e, hn5, hr9⟩ := f8 (upd_ne h (by decide))
          exact ⟨A5, n5, c5, e, hn5, hr9.up b5⟩), (kp f9), (kp f10), (kp f11)⟩
      · obtain rfl := Option.some.inj ho
        have g2 := f2 (hd ⟨2, .data⟩ (by simp) rfl)
        subst g2
        refine wpOp_step rfl (fun K' hK => ?_)
        go_simp
        refine hK _ _ ?_
        exact ⟨_, _, _, _, _, _, _, _, _, _, _, _, rfl, (I0), (kp f0), (kp f1), (kp f2), (fun _ => rfl), (kp f4), (kp f5), (kp f6), (kp f7), (kp f8), (kp f9), (kp f10), (kp f11)⟩
      · obtain rfl := Option.some.inj ho
        have g3 := f3 (hd ⟨3, .guard⟩ (by simp) rfl)
        subst g3
        refine wpOp_step rfl (fun K' hK => ?_)
        go_simp
        refine hK _ _ ?_
        exact ⟨_, _, _, _, _, _, _, _, _, _, _, _, rfl, (I0), (kp f0), (kp f1), (kp f2), (kp f3), (fun _ => rfl), (kp f5), (kp f6), (kp f7), (kp f8), (kp f9), (kp f10), (kp f11)⟩
      · obtain rfl := Option.some.inj ho
        have g4 := f4 (hd ⟨4, .data⟩ (by simp) rfl)
        subst g4
        have g3 := f3 (hd ⟨3, .guard⟩ (by simp) rfl)
        subst g3
        have z0 : ww.cell? ⟨b, 0, none⟩ = some (.slice A n c) := (I0.cell (p := ⟨b, 0, none⟩) hbl).trans x0
        have z1 : ww.cell? ⟨b, 1, none⟩ = some (.slice R m d) := (I0.cell (p := ⟨b, 1, none⟩) hbl).trans x1
        have z2 : ww.cell? ⟨b, 2, none⟩ = some (.slice K p q) := (I0.cell (p := ⟨b, 2, none⟩) hbl).trans x2
        refine wpOp_step rfl (fun K' hK => ?_)
        go_simp
        refine hK _ _ ?_
        exact ⟨_, _, _, _, _, _, _, _, _, _, _, _, rfl, (I0), (kp f0), (kp f1), (kp f2), (kp f3), (kp f4), (fun _ => rfl), (kp f6), (kp f7), (kp f8), (kp f9), (kp f10), (kp f11)⟩
      · obtain rfl := Option.some.inj ho
        have g3 := f3 (hd ⟨3, .guard⟩ (by simp) rfl)
        subst g3
        refine wpOp_step rfl (fun K' hK => ?_)
        go_simp
        refine hK _ _ ?_
        exact ⟨_, _, _, _, _, _, _, _, _, _, _, _, rfl, (I0), (kp f0), (kp f1), (kp f2), (kp f3), (kp f4), (kp f5), (fun _ => rfl), (kp f7), (kp f8), (kp f9), (kp f10), (kp f11)⟩
      · obtain rfl := Option.some.inj ho
        have g6 := f6 (hd ⟨6, .data⟩ (by simp) rfl)
        subst g6
        have g3 := f3 (hd ⟨3, .guard⟩ (by simp) rfl)
        subst g3
        have z0 : ww.cell? ⟨b, 0, none⟩ = some (.slice A n c) := (I0.cell (p := ⟨b, 0, none⟩) hbl).trans x0
        have z1 : ww.cell? ⟨b, 1, none⟩ = some (.slice R m d) := (I0.cell (p := ⟨b, 1, none⟩) hbl).trans x1
        have z2 : ww.cell? ⟨b, 2, none⟩ = some (.slice K p q) := (I0.cell (p := ⟨b, 2, none⟩) hbl).trans x2
        refine wpOp_step rfl (fun K' hK => ?_)
        go_simp
        refine hK _ _ ?_
        exact ⟨_, _, _, _, _, _, _, _, _, _, _, _, rfl, (I0), (kp f0), (kp f1), (kp f2), (kp f3), (kp f4), (kp f5), (kp f6), (fun _ => rfl), (kp f8), (kp f9), (kp f10), (kp f11)⟩
      · obtain rfl := Option.some.inj ho
        have g7 := f7 (hd ⟨7, .data⟩ (by simp) rfl)
        subst g7
        have g3 := f3 (hd ⟨3, .guard⟩ (by simp) rfl)
        subst g3
        refine wpOp_step rfl (fun K' hK => ?_)
        go_simp
        refine (refCounts_any _ _ _ _ _ _ h ww (r0.up I0) hn hm hnc hmd).mono ?_
        rintro e w' ⟨v1, rfl, ow, b5⟩
        obtain ⟨A5, c5, rfl, -⟩ := ow.form
        have hr9 := ow.reads
        refine hK _ _ ?_
        exact ⟨_, _, _, _, _, _, _, _, _, _, _, _, rfl, (I0.trans (b5.mono I0.size)), (kp f0), (kp f1), (kp f2), (kp f3), (kp f4), (kp f5), (kp f6), (kp f7), (fun _ => ⟨A5, _, c5, rfl, by omega, hr9⟩), (kp f9), (kp f10), (kp f11)⟩
      · obtain rfl := Option.some.inj ho
        have g5 := f5 (hd ⟨5, .data⟩ (by simp) rfl)
        have g8 := f8 (hd ⟨8, .data⟩ (by simp) rfl)
        subst g5
        have g3 := f3 (hd ⟨3, .guard⟩ (by simp) rfl)
        subst g3
        obtain ⟨A5, n5, c5, rfl, hn5, hr9⟩ := g8
        refine wpOp_step rfl (fun K' hK => ?_)
        go_simp
        refine (equalI_any _ _ _ _ _ _ l (Hps.countsH h) ww (k0.up I0) hr9 hp hn5).mono ?_
        rintro e w' ⟨rfl, b5⟩
        refine hK _ _ ?_
        exact ⟨_, _, _, _, _, _, _, _, _, _, _, _, rfl, (I0.trans (b5.mono I0.size)), (kp f0), (kp f1), (kp f2), (kp f3), (kp f4), (kp f5), (kp f6), (kp f7), (fun _ => ⟨A5, n5, c5, rfl, hn5, hr9.up b5⟩), (fun _ => rfl), (kp f10), (kp f11)⟩
      · obtain rfl := Option.some.inj ho
        have g3 := f3 (hd ⟨3, .data⟩ (by simp) rfl)
        have g9 := f9 (hd ⟨9, .data⟩ (by simp) rfl)
        subst g3
        subst g9
        refine wpOp_step rfl (fun K' hK => ?_)
        go_simp
        refine hK _ _ ?_
        exact ⟨_, _, _, _, _, _, _, _, _, _, _, _, rfl, (I0), (kp f0), (kp f1), (kp f2), (kp f3), (kp f4), (kp f5), (kp f6), (kp f7), (kp f8), (kp f9), (fun _ => rfl), (kp f11)⟩
      · obtain rfl := Option.some.inj ho
        have g10 := f10 (hd ⟨10, .data⟩ (by simp) rfl)
        subst g10
        refine wpOp_step rfl (fun K' hK => ?_)
        go_simp
        refine hK _ _ ?_
        exact ⟨_, _, _, _, _, _, _, _, _, _, _, _, rfl, (I0), (kp f0), (kp f1), (kp f2), (kp f3), (kp f4), (kp f5), (kp f6), (kp f7), (kp f8), (kp f9), (kp f10), (fun _ => rfl)⟩
    case hdone =>
      rintro L ac ww hall ⟨t2, t3, t4, t5, t6, t7, t8, t9, t10, t11, t12, t13, rfl, I0, f0, f1, f2, f3, f4, f5, f6, f7, f8, f9, f10, f11⟩
      have e0 := f0 (hall 0 (by decide))
      have e1 := f1 (hall 1 (by decide))
      have e2 := f2 (hall 2 (by decide))
      have e3 := f3 (hall 3 (by decide))
      have e4 := f4 (hall 4 (by decide))
      have e5 := f5 (hall 5 (by decide))
      have e6 := f6 (hall 6 (by decide))
      have e7 := f7 (hall 7 (by decide))
      have e8 := f8 (hall 8 (by decide))
      have e9 := f9 (hall 9 (by decide))
      have e10 := f10 (hall 10 (by decide))
      have e11 := f11 (hall 11 (by decide))
      clear f0 f1 f2 f3 f4 f5 f6 f7 f8 f9 f10 f11
      subst e11
      have bbf := b0.trans (I0.mono b0.size)
      clear I0 e0 e1 e2 e3 e4 e5 e6 e7 e8 e9 e10 hall x0 x1 x2 Q0 r0 k0
      go_wp2_with fail
      go_ret
      exact ⟨by rw [HOK.out]; simp, by have := HB.out; subst this; exact bbf⟩
end Go.Proofs.Ytijgfpcpkmpdpaa
