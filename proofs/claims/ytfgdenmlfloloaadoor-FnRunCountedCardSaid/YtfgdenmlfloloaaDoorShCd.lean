/- What the claim DRunCounted stands on, part 4 of 5: texts of one seat put together, with what the claim needs of them. No conditions. -/
import Derived.Test.YtfgdenmlfloloaaDoorShCc
namespace Go.Proofs.YtfgdenmlfloloaaDoor
open Go.RowKit
set_option maxRecDepth 100000
set_option maxHeartbeats 1000000 in
theorem operationOf_bad (o : Cm) (w : World) (h : o.op < 1 ∨ 6 < o.op) : Calls Tryd.prog 71 #[cmV o] w fun e w' => e = .returned (.tuple #[opZ, .bool false]) ∧ Below w.heap.size w w' := by
  obtain ⟨k, a, b, c⟩ := o
  simp only at h
  have b1 : Below w.heap.size w ((w.alloc (.cells #[.int .i64 k, .int .i64 a, .int .i64 b, .int .i64 c] 36)).alloc (.cells #[.int .i64 0, .int .i64 0, .int .i64 0, .nilFunc, .nilFunc] 111)) := ((Below.refl _ _).alloc (Nat.le_refl _) _).alloc (by simp) _
  have q1 := Rw.new (w.alloc (.cells #[.int .i64 k, .int .i64 a, .int .i64 b, .int .i64 c] 36)) 111 #[.int .i64 0, .int .i64 0, .int .i64 0, .nilFunc, .nilFunc]
  simp only [World.size_alloc] at q1
  by_cases h1 : k < 1
  · go_enter Tryd.func71, Tryd.ntmps71
    go_wp2_with fail
    exact bodyPost_ret (v := .tuple #[opZ, .bool false]) (by simp [results, Tryd.results71, go_sem, *]) rfl ⟨rfl, b1⟩
  · have d1 : decide (k < 1) = false := decide_eq_false h1
    have h2 : 6 < k := by omega
    go_enter Tryd.func71, Tryd.ntmps71
    go_wp2_with fail
    exact bodyPost_ret (v := .tuple #[opZ, .bool false]) (by simp [results, Tryd.results71, go_sem, *]) rfl ⟨rfl, b1⟩
set_option maxHeartbeats 4000000 in
theorem operationOf_walk (k x y z : Int) (f g : Nat) (a b c : Int) (w : World) (h1 : 1 ≤ k) (h6 : k ≤ 6) (hix : ∀ w, (Instr.index 143 opsV (.int .i64 k)).run Tryd.prog w = .ok (opA x y z f g) w) :
    Calls Tryd.prog 71 #[cmV ⟨k, a, b, c⟩] w fun e w' => e = .returned (.tuple #[opA x y z f g, .bool (Hps.inR a 0 x && Hps.inR b 0 y && Hps.inR c 0 z)]) ∧ Below w.heap.size w w' := by
  have HIX := Lib.hid hix
  obtain ⟨r, hr⟩ : ∃ r, (Hps.inR a 0 x && Hps.inR b 0 y && Hps.inR c 0 z) = r := ⟨_, rfl⟩
  rw [hr]
  have HR := Lib.hid hr
  have d1 : decide (k < 1) = false := decide_eq_false (by omega)
  have d2 : decide (6 < k) = false := decide_eq_false (by omega)
  clear h1 h6 hix hr
  have B2 : Below w.heap.size w ((w.alloc (.cells #[.int .i64 k, .int .i64 a, .int .i64 b, .int .i64 c] 36)).alloc (.cells #[.int .i64 0, .int .i64 0, .int .i64 0, .nilFunc, .nilFunc] 111)) := ((Below.refl _ _).alloc (Nat.le_refl _) _).alloc (by simp) _
  have Q1 := (Rw.new w 36 #[.int .i64 k, .int .i64 a, .int .i64 b, .int .i64 c]).alloc (.cells #[.int .i64 0, .int .i64 0, .int .i64 0, .nilFunc, .nilFunc] 111)
  have Q2 := Rw.new (w.alloc (.cells #[.int .i64 k, .int .i64 a, .int .i64 b, .int .i64 c] 36)) 111 #[.int .i64 0, .int .i64 0, .int .i64 0, .nilFunc, .nilFunc]
  simp only [World.size_alloc] at Q2
  go_enter Tryd.func71, Tryd.ntmps71
  go_upto_region 3 with fail
  generalize ((w.alloc (.cells #[.int .i64 k, .int .i64 a, .int .i64 b, .int .i64 c] 36)).alloc (.cells #[.int .i64 0, .int .i64 0, .int .i64 0, .nilFunc, .nilFunc] 111)) = w2 at B2 Q1 Q2 ⊢
  have hz := Q2.lt
  refine wp_region_inv (by kernel_rfl) (by kernel_rfl) (fun L ac ww => ∃ t4 t14 t15 t16 t17 : Value, ac = { tmps := #[cmV { op := k, a := a, b := b, c := c }, Value.pointer (some { block := w.heap.size, off := 0 }), Value.pointer (some { block := w.heap.size + 1, off := 0 }), Value.bool false, t4, Value.pointer (some { block := w.heap.size, off := 0 }), Value.int IntKind.i64 k, Value.bool false, Value.bool false, Value.pointer (some { block := w.heap.size, off := 0 }), Value.int IntKind.i64 k, Value.bool false, Value.bool false, undef, t14, t15, t16, t17, undef, undef, undef, undef], defers := [] } ∧ (Below w2.heap.size w2 ww) ∧ (L 0 = true → t14 = opsV) ∧ (L 1 = true → t15 = .pointer (some ⟨w.heap.size, 0, none⟩)) ∧ (L 2 = true → t16 = .int .i64 k) ∧ (L 3 = true → t17 = opA x y z f g) ∧ (L 4 = true → ∃ g4, t4 = .pointer (some ⟨g4, 0, none⟩) ∧ w2.heap.size ≤ g4 ∧ ∃ cs, Rw ww g4 111 cs ∧ cs = (if L 5 = true then #[.int .i64 x, .int .i64 y, .int .i64 z, .func (.func f) #[] #[], .func (.func g) #[] #[]] else #[.int .i64 0, .int .i64 0, .int .i64 0, .nilFunc, .nilFunc])) ∧ (L 5 = true → L 4 = true ∧ True)) ?h0 ?hstep ?hdone
  case h0 => exact ⟨_, _, _, _, _, rfl, (Below.refl _ _).drew, (fun h => absurd h Bool.false_ne_true), (fun h => absurd h Bool.false_ne_true), (fun h => absurd h Bool.false_ne_true), (fun h => absurd h Bool.false_ne_true), (fun h => absurd h Bool.false_ne_true), (fun h => absurd h Bool.false_ne_true)⟩
  case hstep =>
    rintro L ac ww i o ho hL hd ⟨t4, t14, t15, t16, t17, rfl, I0, f0, f1, f2, f3, f4, f5⟩
    have hi : i < 6 := (Array.getElem?_eq_some_iff.1 ho).1
    obtain rfl | rfl | rfl | rfl | rfl | rfl : i = 0 ∨ i = 1 ∨ i = 2 ∨ i = 3 ∨ i = 4 ∨ i = 5 := by omega
    · obtain rfl := Option.some.inj ho
      refine wpOp_step rfl (fun K' hK => ?_)
      go_simp
      refine (operations_any ww).mono ?_
      rintro e w' ⟨rfl, b5⟩
      refine hK _ _ ?_
      exact ⟨_, _, _, _, _, rfl, (I0.trans (b5.mono I0.size)), (fun _ => rfl), (kp f1), (kp f2), (kp f3), (fun h => by
        obtain ⟨g4, e4, h4, cs, h5, h6⟩ := f4 (upd_ne h (by decide))
        exact ⟨g4, e4, h4, cs, h5.keep b5 h5.lt, by rw [h6, upd_other (by decide)]⟩), (fun h => ⟨by first | exact upd_self | (rw [upd_other (by decide)]; exact (f5 (upd_ne h (by decide))).1), trivial⟩)⟩
    · obtain rfl := Option.some.inj ho
      refine wpOp_step rfl (fun K' hK => ?_)
      go_simp
      refine hK _ _ ?_
      exact ⟨_, _, _, _, _, rfl, (I0), (kp f0), (fun _ => rfl), (kp f2), (kp f3), (fun h => by
        obtain ⟨g4, e4, h4, cs, h5, h6⟩ := f4 (upd_ne h (by decide))
        exact ⟨g4, e4, h4, cs, h5, by rw [h6, upd_other (by decide)]⟩), (fun h => ⟨by first | exact upd_self | (rw [upd_other (by decide)]; exact (f5 (upd_ne h (by decide))).1), trivial⟩)⟩
    · obtain rfl := Option.some.inj ho
      have g1 := f1 (hd ⟨1, .data⟩ (by simp) rfl)
      subst g1
      have z0 : ww.cell? ⟨w.heap.size, 0, none⟩ = some (.int .i64 k) := (I0.cell (p := ⟨w.heap.size, 0, none⟩) (by show w.heap.size < w2.heap.size; omega)).trans (Q1.cell 0)
      refine wpOp_step rfl (fun K' hK => ?_)
      go_simp
      refine hK _ _ ?_
      exact ⟨_, _, _, _, _, rfl, (I0), (kp f0), (kp f1), (fun _ => rfl), (kp f3), (fun h => by
        obtain ⟨g4, e4, h4, cs, h5, h6⟩ := f4 (upd_ne h (by decide))
        exact ⟨g4, e4, h4, cs, h5, by rw [h6, upd_other (by decide)]⟩), (fun h => ⟨by first | exact upd_self | (rw [upd_other (by decide)]; exact (f5 (upd_ne h (by decide))).1), trivial⟩)⟩
    · obtain rfl := Option.some.inj ho
      have g0 := f0 (hd ⟨0, .data⟩ (by simp) rfl)
      have g2 := f2 (hd ⟨2, .data⟩ (by simp) rfl)
      subst g0
      subst g2
      have hix := HIX.out ww
      refine wpOp_step rfl (fun K' hK => ?_)
      go_simp
      refine hK _ _ ?_
      exact ⟨_, _, _, _, _, rfl, (I0), (kp f0), (kp f1), (kp f2), (fun _ => rfl), (fun h => by
        obtain ⟨g4, e4, h4, cs, h5, h6⟩ := f4 (upd_ne h (by decide))
        exact ⟨g4, e4, h4, cs, h5, by rw [h6, upd_other (by decide)]⟩), (fun h => ⟨by first | exact upd_self | (rw [upd_other (by decide)]; exact (f5 (upd_ne h (by decide))).1), trivial⟩)⟩
    · obtain rfl := Option.some.inj ho
      have hL5 : L 5 = false := by
        cases e : L 5
        · rfl
        · exact absurd (f5 e).1 (by rw [hL]; decide)
      refine wpOp_step rfl (fun K' hK => ?_)
      go_simp
      refine hK _ _ ?_
      exact ⟨_, _, _, _, _, rfl, (I0.alloc I0.size _), (kp f0), (kp f1), (kp f2), (kp f3), (fun _ => ⟨_, rfl, I0.size, _, Rw.new _ _ _, by rw [upd_other (by decide), hL5, if_neg (by decide)]⟩), (fun h => ⟨by first | exact upd_self | (rw [upd_other (by decide)]; exact (f5 (upd_ne h (by decide))).1), trivial⟩)⟩
    · obtain rfl := Option.some.inj ho
      have g3 := f3 (hd ⟨3, .data⟩ (by simp) rfl)
      have g4 := f4 (hd ⟨4, .data⟩ (by simp) rfl)
      subst g3
      obtain ⟨g4, e4, h4, cs, h5, h6⟩ := g4
      rw [hL, if_neg (by decide)] at h6
      subst h6
      subst e4
      have l4 := hd ⟨4, .data⟩ (by simp) rfl
      have c0 := h5.cell 0
      have c1 := h5.cell 1
      have c2 := h5.cell 2
      have c3 := h5.cell 3
      have c4 := h5.cell 4
      have fz0 := h5.frozen 0
      have fz1 := h5.frozen 1
      have fz2 := h5.frozen 2
      have fz3 := h5.frozen 3
      have fz4 := h5.frozen 4
      simp only [List.getElem?_toArray, List.getElem?_cons_zero, List.getElem?_cons_succ] at c0 c1 c2 c3 c4
      have hput := ((((h5.put 0 (.int .i64 x)).put 1 (.int .i64 y)).put 2 (.int .i64 z)).put 3 (.func (.func f) #[] #[])).put 4 (.func (.func g) #[] #[])
      have hbel := ((((I0.setCell (p := ⟨g4, 0, none⟩) (by show w2.heap.size ≤ g4; omega) (.int .i64 x)).setCell (p := ⟨g4, 1, none⟩) (by show w2.heap.size ≤ g4; omega) (.int .i64 y)).setCell (p := ⟨g4, 2, none⟩) (by show w2.heap.size ≤ g4; omega) (.int .i64 z)).setCell (p := ⟨g4, 3, none⟩) (by show w2.heap.size ≤ g4; omega) (.func (.func f) #[] #[])).setCell (p := ⟨g4, 4, none⟩) (by show w2.heap.size ≤ g4; omega) (.func (.func g) #[] #[])
      refine wpOp_step rfl (fun K' hK => ?_)
      go_simp
      refine hK _ _ ?_
      exact ⟨_, _, _, _, _, rfl, (hbel), (kp f0), (kp f1), (kp f2), (kp f3), (fun _ => ⟨g4, rfl, h4, _, hput, by rw [upd_self, if_pos rfl]; rfl⟩), (fun _ => ⟨by rw [upd_other (by decide)]; exact l4, trivial⟩)⟩
  case hdone =>
    rintro L ac ww hall ⟨t4, t14, t15, t16, t17, rfl, I0, f0, f1, f2, f3, f4, f5⟩
    have e0 := f0 (hall 0 (by decide))
    have e1 := f1 (hall 1 (by decide))
    have e2 := f2 (hall 2 (by decide))
    have e3 := f3 (hall 3 (by decide))
    have e4 := f4 (hall 4 (by decide))
    have e5 := f5 (hall 5 (by decide))
    clear f0 f1 f2 f3 f4 f5
    obtain ⟨g4, rfl, hg4, cs, R4, e6⟩ := e4
    rw [hall 5 (by decide), if_pos rfl] at e6
    subst e6
    subst e0 e1 e2 e3
    clear e5 hall
    replace B2 := B2.trans (I0.mono B2.size)
    replace Q1 := Q1.keep I0 Q1.lt
    replace Q2 := Q2.keep I0 Q2.lt
    clear I0
    go_upto_region 4 with fail
    have hne : g4 ≠ w.heap.size + 1 := by omega
    refine wp_region_inv (by kernel_rfl) (by kernel_rfl) (fun L ac wv => ∃ t3 t18 t19 t20 t21 : Value, ac = { tmps := #[cmV { op := k, a := a, b := b, c := c }, Value.pointer (some { block := w.heap.size, off := 0 }), Value.pointer (some { block := w.heap.size + 1, off := 0 }), t3, Value.pointer (some { block := g4, off := 0 }), Value.pointer (some { block := w.heap.size, off := 0 }), Value.int IntKind.i64 k, Value.bool false, Value.bool false, Value.pointer (some { block := w.heap.size, off := 0 }), Value.int IntKind.i64 k, Value.bool false, Value.bool false, undef, opsV, Value.pointer (some { block := w.heap.size, off := 0 }), Value.int IntKind.i64 k, opA x y z f g, t18, t19, t20, t21], defers := [] } ∧ (Below w.heap.size w wv) ∧ (Rw wv g4 111 #[.int .i64 x, .int .i64 y, .int .i64 z, .func (.func f) #[] #[], .func (.func g) #[] #[]]) ∧ (Rw wv w.heap.size 36 #[.int .i64 k, .int .i64 a, .int .i64 b, .int .i64 c]) ∧ (Rw wv (w.heap.size + 1) 111 (if L 4 = true then #[.int .i64 x, .int .i64 y, .int .i64 z, .func (.func f) #[] #[], .func (.func g) #[] #[]] else #[.int .i64 0, .int .i64 0, .int .i64 0, .nilFunc, .nilFunc])) ∧ (L 0 = true → t18 = opA x y z f g) ∧ (L 1 = true → t19 = opA x y z f g) ∧ (L 2 = true → t20 = cmV ⟨k, a, b, c⟩) ∧ (L 3 = true → t21 = .bool r) ∧ (L 4 = true → True) ∧ (L 5 = true → t3 = .bool r)) ?h0 ?hstep ?hdone
    case h0 => exact ⟨_, _, _, _, _, rfl, B2.drew, (R4.keep (Below.refl _ _).drew R4.lt), (Q1.keep (Below.refl _ _).drew Q1.lt), by rw [if_neg (by decide)]; exact Q2.keep (Below.refl _ _).drew Q2.lt, (fun h => absurd h Bool.false_ne_true), (fun h => absurd h Bool.false_ne_true), (fun h => absurd h Bool.false_ne_true), (fun h => absurd h Bool.false_ne_true), (fun h => absurd h Bool.false_ne_true), (fun h => absurd h Bool.false_ne_true)⟩
    case hstep =>
      rintro L ac wv i o ho hL hd ⟨t3, t18, t19, t20, t21, rfl, I0, I1, I2, I3, f0, f1, f2, f3, f4, f5⟩
      have hi : i < 6 := (Array.getElem?_eq_some_iff.1 ho).1
      obtain rfl | rfl | rfl | rfl | rfl | rfl : i = 0 ∨ i = 1 ∨ i = 2 ∨ i = 3 ∨ i = 4 ∨ i = 5 := by omega
      · obtain rfl := Option.some.inj ho
        have I10_ := I1.cell 0
        have I11_ := I1.cell 1
        have I12_ := I1.cell 2
        have I13_ := I1.cell 3
        have I14_ := I1.cell 4
        simp only [List.getElem?_toArray, List.getElem?_cons_zero, List.getElem?_cons_succ] at I10_ I11_ I12_ I13_ I14_
        refine wpOp_step rfl (fun K' hK => ?_)
        go_simp
        refine hK _ _ ?_
        exact ⟨_, _, _, _, _, rfl, (I0), (I1), (I2), (by rw [upd_other (by decide)]; exact I3), (fun _ => rfl), (kp f1), (kp f2), (kp f3), (kp f4), (kp f5)⟩
      · obtain rfl := Option.some.inj ho
        have I10_ := I1.cell 0
        have I11_ := I1.cell 1
        have I12_ := I1.cell 2
        have I13_ := I1.cell 3
        have I14_ := I1.cell 4
        simp only [List.getElem?_toArray, List.getElem?_cons_zero, List.getElem?_cons_succ] at I10_ I11_ I12_ I13_ I14_
        refine wpOp_step rfl (fun K' hK => ?_)
        go_simp
        refine hK _ _ ?_
        exact ⟨_, _, _, _, _, rfl, (I0), (I1), (I2), (by rw [upd_other (by decide)]; exact I3), (kp f0), (fun _ => rfl), (kp f2), (kp f3), (kp f4), (kp f5)⟩
      · obtain rfl := Option.some.inj ho
        have I20_ := I2.cell 0
        have I21_ := I2.cell 1
        have I22_ := I2.cell 2
        have I23_ := I2.cell 3
        simp only [List.getElem?_toArray, List.getElem?_cons_zero, List.getElem?_cons_succ] at I20_ I21_ I22_ I23_
        refine wpOp_step rfl (fun K' hK => ?_)
        go_simp
        refine hK _ _ ?_
        exact ⟨_, _, _, _, _, rfl, (I0), (I1), (I2), (by rw [upd_other (by decide)]; exact I3), (kp f0), (kp f1), (fun _ => rfl), (kp f3), (kp f4), (kp f5)⟩
      · obtain rfl := Option.some.inj ho
        have g1 := f1 (hd ⟨1, .data⟩ (by simp) rfl)
        have g2 := f2 (hd ⟨2, .data⟩ (by simp) rfl)
        subst g1
        subst g2
        refine wpOp_step rfl (fun K' hK => ?_)
        go_simp
        refine (takes_any f g x y z ⟨k, a, b, c⟩ wv).mono ?_
        simp only [HR.out]
        rintro e w' ⟨rfl, b5⟩
        refine hK _ _ ?_
        exact ⟨_, _, _, _, _, rfl, (I0.trans (b5.mono I0.size)), (I1.keep b5 I1.lt), (I2.keep b5 I2.lt), (by rw [upd_other (by decide)]; exact I3.keep b5 I3.lt), (kp f0), (kp f1), (kp f2), (fun _ => rfl), (kp f4), (kp f5)⟩
      · obtain rfl := Option.some.inj ho
        have g0 := f0 (hd ⟨0, .data⟩ (by simp) rfl)
        subst g0
        rw [hL, if_neg (by decide)] at I3
        have P0 := I3
        have P00_ := P0.cell 0
        have P01_ := P0.cell 1
        have P02_ := P0.cell 2
        have P03_ := P0.cell 3
        have P04_ := P0.cell 4
        simp only [List.getElem?_toArray, List.getElem?_cons_zero, List.getElem?_cons_succ] at P00_ P01_ P02_ P03_ P04_
        have fz0 := P0.frozen 0
        have fz1 := P0.frozen 1
        have fz2 := P0.frozen 2
        have fz3 := P0.frozen 3
        have fz4 := P0.frozen 4
        refine wpOp_step rfl (fun K' hK => ?_)
        go_simp
        refine hK _ _ ?_
        exact ⟨_, _, _, _, _, rfl, ((((((I0.setCell (p := ⟨w.heap.size + 1, 0, none⟩) (by show w.heap.size ≤ w.heap.size + 1; omega) (.int .i64 x)).setCell (p := ⟨w.heap.size + 1, 1, none⟩) (by show w.heap.size ≤ w.heap.size + 1; omega) (.int .i64 y)).setCell (p := ⟨w.heap.size + 1, 2, none⟩) (by show w.heap.size ≤ w.heap.size + 1; omega) (.int .i64 z)).setCell (p := ⟨w.heap.size + 1, 3, none⟩) (by show w.heap.size ≤ w.heap.size + 1; omega) (.func (.func f) #[] #[])).setCell (p := ⟨w.heap.size + 1, 4, none⟩) (by show w.heap.size ≤ w.heap.size + 1; omega) (.func (.func g) #[] #[]))), ((((((I1.other hne (.int .i64 x)).other hne (.int .i64 y)).other hne (.int .i64 z)).other hne (.func (.func f) #[] #[])).other hne (.func (.func g) #[] #[]))), ((((((I2.other (by omega) (.int .i64 x)).other (by omega) (.int .i64 y)).other (by omega) (.int .i64 z)).other (by omega) (.func (.func f) #[] #[])).other (by omega) (.func (.func g) #[] #[]))), (by rw [upd_self, if_pos rfl]; exact (((((P0.put 0 (.int .i64 x)).put 1 (.int .i64 y)).put 2 (.int .i64 z)).put 3 (.func (.func f) #[] #[])).put 4 (.func (.func g) #[] #[]))), (kp f0), (kp f1), (kp f2), (kp f3), (fun _ => trivial), (kp f5)⟩
      · obtain rfl := Option.some.inj ho
        have g3 := f3 (hd ⟨3, .data⟩ (by simp) rfl)
        subst g3
        refine wpOp_step rfl (fun K' hK => ?_)
        go_simp
        refine hK _ _ ?_
        exact ⟨_, _, _, _, _, rfl, (I0), (I1), (I2), (by rw [upd_other (by decide)]; exact I3), (kp f0), (kp f1), (kp f2), (kp f3), (kp f4), (fun _ => rfl)⟩
    case hdone =>
      rintro L ac wv hall ⟨t3, t18, t19, t20, t21, rfl, I0, I1, I2, I3, f0, f1, f2, f3, f4, f5⟩
      have e0 := f0 (hall 0 (by decide))
      have e1 := f1 (hall 1 (by decide))
      have e2 := f2 (hall 2 (by decide))
      have e3 := f3 (hall 3 (by decide))
      have e4 := f4 (hall 4 (by decide))
      have e5 := f5 (hall 5 (by decide))
      clear f0 f1 f2 f3 f4 f5
      rw [hall 4 (by decide), if_pos rfl] at I3
      subst e0 e1 e2 e3 e5
      clear e4 hall I1 I2 R4 Q1 Q2 B2
      have I30_ := I3.cell 0
      have I31_ := I3.cell 1
      have I32_ := I3.cell 2
      have I33_ := I3.cell 3
      have I34_ := I3.cell 4
      simp only [List.getElem?_toArray, List.getElem?_cons_zero, List.getElem?_cons_succ] at I30_ I31_ I32_ I33_ I34_
      go_wp2_with fail
      exact bodyPost_ret (v := .tuple #[opA x y z f g, .bool r]) (by simp [results, Tryd.results71, go_sem, *]) rfl ⟨rfl, I0⟩
theorem Hps.inR_zero {n : Int} : Hps.inR n 0 0 = decide (n = 0) := by
  unfold Hps.inR
  rw [← Bool.decide_and, decide_eq_decide]
  omega
theorem operationOf_1 (a b c : Int) (w : World) : Calls Tryd.prog 71 #[cmV ⟨1, a, b, c⟩] w fun e w' => e = .returned (.tuple #[op1, .bool (Hps.okCm ⟨1, a, b, c⟩)]) ∧ Below w.heap.size w w' := by
  have := operationOf_walk 1 3 3 99 _ _ a b c w (by omega) (by omega) run_op1
  rw [show Hps.okCm ⟨1, a, b, c⟩ = (Hps.inR a 0 3 && Hps.inR b 0 3 && Hps.inR c 0 99) by simp [Hps.okCm]]
  exact this
theorem operationOf_2 (a b c : Int) (w : World) : Calls Tryd.prog 71 #[cmV ⟨2, a, b, c⟩] w fun e w' => e = .returned (.tuple #[op2, .bool (Hps.okCm ⟨2, a, b, c⟩)]) ∧ Below w.heap.size w w' := by
  have := operationOf_walk 2 3 3 2 _ _ a b c w (by omega) (by omega) run_op2
  rw [show Hps.okCm ⟨2, a, b, c⟩ = (Hps.inR a 0 3 && Hps.inR b 0 3 && Hps.inR c 0 2) by simp [Hps.okCm]]
  exact this
theorem operationOf_3 (a b c : Int) (w : World) : Calls Tryd.prog 71 #[cmV ⟨3, a, b, c⟩] w fun e w' => e = .returned (.tuple #[op3, .bool (Hps.okCm ⟨3, a, b, c⟩)]) ∧ Below w.heap.size w w' := by
  have := operationOf_walk 3 3 3 2 _ _ a b c w (by omega) (by omega) run_op3
  rw [show Hps.okCm ⟨3, a, b, c⟩ = (Hps.inR a 0 3 && Hps.inR b 0 3 && Hps.inR c 0 2) by simp [Hps.okCm]]
  exact this
theorem operationOf_4 (a b c : Int) (w : World) : Calls Tryd.prog 71 #[cmV ⟨4, a, b, c⟩] w fun e w' => e = .returned (.tuple #[op4, .bool (Hps.okCm ⟨4, a, b, c⟩)]) ∧ Below w.heap.size w w' := by
  have := operationOf_walk 4 3 3 0 _ _ a b c w (by omega) (by omega) run_op4
  rw [show Hps.okCm ⟨4, a, b, c⟩ = (Hps.inR a 0 3 && Hps.inR b 0 3 && Hps.inR c 0 0) by simp [Hps.okCm, Hps.inR_zero]]
  exact this
theorem operationOf_5 (a b c : Int) (w : World) : Calls Tryd.prog 71 #[cmV ⟨5, a, b, c⟩] w fun e w' => e = .returned (.tuple #[op5, .bool (Hps.okCm ⟨5, a, b, c⟩)]) ∧ Below w.heap.size w w' := by
  have := operationOf_walk 5 3 0 0 _ _ a b c w (by omega) (by omega) run_op5
  rw [show Hps.okCm ⟨5, a, b, c⟩ = (Hps.inR a 0 3 && Hps.inR b 0 0 && Hps.inR c 0 0) by simp [Hps.okCm, Hps.inR_zero]]
  exact this
theorem operationOf_6 (a b c : Int) (w : World) : Calls Tryd.prog 71 #[cmV ⟨6, a, b, c⟩] w fun e w' => e = .returned (.tuple #[op6, .bool (Hps.okCm ⟨6, a, b, c⟩)]) ∧ Below w.heap.size w w' := by
  have := operationOf_walk 6 3 99 0 _ _ a b c w (by omega) (by omega) run_op6
  rw [show Hps.okCm ⟨6, a, b, c⟩ = (Hps.inR a 0 3 && Hps.inR b 0 99 && Hps.inR c 0 0) by simp [Hps.okCm, Hps.inR_zero]]
  exact this
theorem Hps.okCm_none {o : Cm} (h : o.op < 1 ∨ 6 < o.op) : Hps.okCm o = false := by
  cases e : Hps.okCm o
  · rfl
  · have := Hps.okCm_op e
    omega
/-- the operation of whatever instruction -/
theorem operationOf_any (o : Cm) (w : World) : Calls Tryd.prog 71 #[cmV o] w fun e w' => (∃ p, e = .returned (.tuple #[p, .bool (Hps.okCm o)]) ∧ (p = opZ ∨ ∃ x y z f g, p = opA x y z f g)) ∧ Below w.heap.size w w' := by
  obtain ⟨op, a, b, c⟩ := o
  by_cases h : op < 1 ∨ 6 < op
  · refine (operationOf_bad ⟨op, a, b, c⟩ w h).mono ?_
    rintro e w1 ⟨rfl, b1⟩
    exact ⟨⟨_, by rw [Hps.okCm_none (o := ⟨op, a, b, c⟩) h], .inl rfl⟩, b1⟩
  · obtain rfl | rfl | rfl | rfl | rfl | rfl : op = 1 ∨ op = 2 ∨ op = 3 ∨ op = 4 ∨ op = 5 ∨ op = 6 := by omega
    · exact (operationOf_1 a b c w).mono fun _ _ h => ⟨⟨_, h.1, .inr ⟨_, _, _, _, _, rfl⟩⟩, h.2⟩
    · exact (operationOf_2 a b c w).mono fun _ _ h => ⟨⟨_, h.1, .inr ⟨_, _, _, _, _, rfl⟩⟩, h.2⟩
    · exact (operationOf_3 a b c w).mono fun _ _ h => ⟨⟨_, h.1, .inr ⟨_, _, _, _, _, rfl⟩⟩, h.2⟩
    · exact (operationOf_4 a b c w).mono fun _ _ h => ⟨⟨_, h.1, .inr ⟨_, _, _, _, _, rfl⟩⟩, h.2⟩
    · exact (operationOf_5 a b c w).mono fun _ _ h => ⟨⟨_, h.1, .inr ⟨_, _, _, _, _, rfl⟩⟩, h.2⟩
    · exact (operationOf_6 a b c w).mono fun _ _ h => ⟨⟨_, h.1, .inr ⟨_, _, _, _, _, rfl⟩⟩, h.2⟩
set_option maxHeartbeats 1000000 in
theorem commandValid_any (o : Cm) (w : World) : Calls Tryd.prog 58 #[cmV o] w fun e w' => e = .returned (.bool (Hps.okCm o)) ∧ Below w.heap.size w w' := by
  have b1 : Below w.heap.size w (w.alloc (.cells #[.int .i64 o.op, .int .i64 o.a, .int .i64 o.b, .int .i64 o.c] 36)) := (Below.refl _ _).alloc (Nat.le_refl _) _
  obtain ⟨r, hr⟩ : ∃ r, Hps.okCm o = r := ⟨_, rfl⟩
  go_enter Tryd.func58, Tryd.ntmps58
  go_wp2_with fail
  refine (operationOf_any o _).mono ?_
  rw [hr]
  have HR := Lib.hid hr
  clear hr
  rintro e w1 ⟨⟨p, rfl, hp⟩, b2⟩
  have b3 := b1.trans (b2.mono b1.size)
  have hs := b3.size
  clear b1 b2
  rcases hp with rfl | ⟨x, y, z, f, g, rfl⟩
  · go_wp2_with fail
    go_ret
    exact ⟨by rw [HR.out]; rfl, b3.alloc hs _⟩
  · go_wp2_with fail
    go_ret
    exact ⟨by rw [HR.out]; rfl, b3.alloc hs _⟩
set_option maxHeartbeats 1000000 in
theorem commandsValid_any (A : Option Addr) (n c : Nat) (l : List Cm) (w : World) (h : MS w w.heap.size A n l) (hn : n ≤ 1099511627776) (_hc : n ≤ c) :
    Calls Tryd.prog 77 #[.slice A n c] w fun e w' => e = .returned (.bool (Hps.okCms l)) ∧ Below w.heap.size w w' := by
  have HL := Lib.hid h.1
  by_cases h40 : n ≤ 40
  case neg =>
    have d40 : decide ((40 : Int) < (n : Int)) = true := decide_eq_true (by omega)
    have R := Lib.hid (show Hps.okCms l = false by
      cases hh : Hps.okCms l
      · rfl
      · have := (Hps.okCms_iff.1 hh).2
        rw [HL.out] at this
        omega)
    go_enter Tryd.func77, Tryd.ntmps77
    go_wp2_with fail
    go_ret
    exact ⟨by rw [R.out]; rfl, Below.refl _ _⟩
  have d40 : decide ((40 : Int) < (n : Int)) = false := decide_eq_false (by omega)
  go_enter Tryd.func77, Tryd.ntmps77
  go_wp2_with fail
  go_loopw [10] (fun i wr => ∃ k : Nat, k ≤ n ∧ i = .int .i64 k ∧ Hid (∀ j o, j < k → l[j]? = some o → Hps.okCm o = true) ∧ Below w.heap.size w wr) (fun i _ => n - (intOf i).toNat)
  case atStart => exact ⟨0, Nat.zero_le _, rfl, Lib.hid (fun j x hj => by omega), Below.refl _ _⟩
  case round =>
    obtain ⟨k, hk, rfl, HP, bb⟩ := hrel
    by_cases hlt : k < n
    · obtain ⟨g, o, x, rfl, hg, hx, c0, c1, c2, c3⟩ := (h.below bb).at_ hlt
      have hlt' : (k : Int) < n := by omega
      have HX := Lib.hid hx
      have ba : Below w.heap.size w (wr.alloc (.cells #[.int .i64 x.op, .int .i64 x.a, .int .i64 x.b, .int .i64 x.c] 36)) := bb.alloc bb.size _
      clear hx
      go_wp2_with fail
      refine (commandValid_any x _).mono ?_
      cases he : Hps.okCm x
      · have R := Lib.hid (show Hps.okCms l = false by
          cases hh : Hps.okCms l
          · rfl
          · rw [(Hps.okCms_iff.1 hh).1 x (List.mem_of_getElem? HX.out)] at he
            cases he)
        rintro e w1 ⟨rfl, b1⟩
        have b2 := ba.trans (b1.mono ba.size)
        clear he
        go_wp2_with fail
        go_ret
        exact ⟨by rw [R.out]; rfl, b2⟩
      · have HN : Hid (∀ j y, j < k + 1 → l[j]? = some y → Hps.okCm y = true) := Lib.hid fun j y hj hy => by
          rcases Nat.lt_or_ge j k with h1 | h1
          · exact HP.out j y h1 hy
          · obtain rfl : j = k := by omega
            rw [HX.out] at hy
            have hy := Option.some.inj hy
            rw [← hy]
            exact he
        rintro e w1 ⟨rfl, b1⟩
        have b2 := ba.trans (b1.mono ba.size)
        clear he
        go_wp2_with fail
        go_roundw
        case rel => exact ⟨k + 1, by omega, by go_num, HN, b2⟩
        case measure => simp [intOf]; omega
    · obtain rfl : k = n := by omega
      have R := Lib.hid (show Hps.okCms l = true by
        refine Hps.okCms_iff.2 ⟨fun x hx => ?_, by rw [HL.out]; exact h40⟩
        obtain ⟨j, hj⟩ := List.mem_iff_getElem?.1 hx
        exact HP.out j x (by rw [← HL.out]; exact (List.getElem?_eq_some_iff.1 hj).1) hj)
      go_wp2_with fail
      go_ret
      exact ⟨by rw [R.out]; rfl, bb⟩
end Go.Proofs.YtfgdenmlfloloaaDoor

namespace Go.Proofs.YtfgdenmlfloloaaDoor
open Go.RowKit
set_option maxRecDepth 100000
theorem okRef_form {cs : List Cl} {x : Int} (h : Hps.okRef cs x = true) : x = -1 ∨ ∃ y : Nat, x = y ∧ y < cs.length := by
  by_cases h0 : 0 ≤ x
  · obtain ⟨y, e, hy, _⟩ := Hps.okRef_nat h h0
    exact .inr ⟨y, e, hy⟩
  · have := Hps.okRef_lo h
    have hlo : -1 ≤ x := by
      rcases Hps.okRef_iff.1 h with e | e
      · omega
      · omega
    exact .inl (by omega)
set_option maxHeartbeats 1000000 in
theorem hasRef_any (A R : Option Addr) (n c m d : Nat) (h : Hp) (k : Nat) (p x : Int) (w : World) (hs : HS w w.heap.size A n R m h) (_hn : n ≤ 1099511627776) (hx : h.rt[k]? = some x) (ho : Hps.okRef h.cs x = true) :
    Calls Tryd.prog 141 #[heapV A n c R m d, .int .i64 k, .int .i64 p] w fun e w' => e = .returned (.bool (Hps.placeH h.cs x p)) ∧ Below w.heap.size w w' := by
  have hlc := hs.cells.1
  have hlr := hs.roots.1
  have bb : Below w.heap.size w (w.alloc (.cells #[.slice A n c, .slice R m d] 26)) := (Below.refl _ _).alloc (Nat.le_refl _) _
  have hkm : k < m := by have := (List.getElem?_eq_some_iff.1 hx).1; omega
  obtain ⟨g, og, x', rfl, hg, hx', d1⟩ := (hs.roots.below bb).at_ (k := k) hkm
  rw [hx] at hx'
  obtain rfl := Option.some.inj hx'
  have hkm' : (k : Int) < m := by omega
  rcases okRef_form ho with rfl | ⟨y, rfl, hy⟩
  · have HP := Lib.hid (show Hps.placeH h.cs (-1) p = false by simp [Hps.placeH])
    clear hx hx' ho
    go_enter Tryd.func141, Tryd.ntmps141
    go_wp2_with fail
    go_ret
    exact ⟨by rw [HP.out]; rfl, bb⟩
  · obtain ⟨g2, o2, cl, A', m', cc, rfl, hg2, hcl, e1, e2, e3, hmc, hi⟩ := (hs.cells.below bb).at_ (k := y) (by omega)
    have hyn : (y : Int) < n := by omega
    have hne : ((y : Int) != -1) = true := by rw [bne_iff_ne]; omega
    have HP := Lib.hid (show Hps.placeH h.cs (y : Int) p = decide (p < (m' : Int)) by
      simp [Hps.placeH, hcl, hi.1])
    clear ho hcl hy e1 e2 hi hx hx'
    go_enter Tryd.func141, Tryd.ntmps141
    go_wp2_with fail
    go_ret
    exact ⟨by rw [HP.out]; rfl, bb⟩
/-- a function with a body is entered -/
theorem run_entered {f : Nat} {fn : Func} (hf : Tryd.prog.funcs[f]? = some fn) (hn : (fn.name == "runtime.NumGoroutine") = false) (hb : fn.body.isNone = false) (args : Array Value) (w : World) : (callFunc f args).run Tryd.prog w = .ok (.enter f args) w := by
  unfold callFunc
  simp only [Sem.run_bind, run_program, Result.andThen_ok, hf, hn, hb, Bool.false_eq_true, if_false]
  rfl
/-- what CommandPossible asks of the function in the table -/
def PossF (f : Nat) (o : Cm) (h : Hp) : Prop := ∀ (A R : Option Addr) (n c m d : Nat) (w : World), HS w w.heap.size A n R m h → n ≤ 1099511627776 → m ≤ 1099511627776 → n ≤ c → m ≤ d →
  Calls Tryd.prog f #[cmV o, heapV A n c R m d] w fun e w' => e = .returned (.bool (Hps.canH h o)) ∧ Below w.heap.size w w'
theorem poss_always {o : Cm} {h : Hp} (hc : Hps.canH h o = true) : PossF 126 o h := by
  intro A R n c m d w _ _ _ _ _
  rw [hc]
  have bb : Below w.heap.size w ((w.alloc (.cells #[.int .i64 o.op, .int .i64 o.a, .int .i64 o.b, .int .i64 o.c] 36)).alloc (.cells #[.slice A n c, .slice R m d] 26)) := ((Below.refl _ _).alloc (Nat.le_refl _) _).alloc (by simp) _
  go_enter Tryd.func126, Tryd.ntmps126
  go_wp2_with fail
  go_ret
  exact ⟨rfl, bb⟩
set_option maxHeartbeats 1000000 in
theorem poss_get {o : Cm} {h : Hp} (hv : Hps.validH h = true) (ho : Hps.okCm o = true) (e2 : o.op = 2) : PossF 128 o h := by
  intro A R n c m d w hs hn hm hc hd
  have R0 := Lib.hid (Hps.canH_get hv ho e2)
  obtain ⟨_, ⟨hb1, hb2⟩, _⟩ := (Hps.okCm_get (.inl e2)).1 ho
  obtain ⟨b, hbn⟩ := Int.eq_ofNat_of_zero_le hb1
  have hr4 := (Hps.valid_iff.1 hv).2.2.1
  have hx := List.getElem?_eq_getElem (show b < h.rt.length by omega)
  generalize h.rt[b]'(by omega) = x at hx
  have HRt := Lib.hid (Hps.rootAt_nat hx)
  have ok := Hps.valid_root hv hx
  obtain ⟨op, a, b', cc⟩ := o
  simp only at hbn
  subst hbn
  have bb : Below w.heap.size w ((w.alloc (.cells #[.int .i64 op, .int .i64 a, .int .i64 b, .int .i64 cc] 36)).alloc (.cells #[.slice A n c, .slice R m d] 26)) := ((Below.refl _ _).alloc (Nat.le_refl _) _).alloc (by simp) _
  have s2 := hs.up bb
  clear hb1 hb2 e2 ho hr4
  go_enter Tryd.func128, Tryd.ntmps128
  go_wp2_with fail
  refine (hasRef_any _ _ _ _ _ _ h b cc x _ s2 hn hx ok).mono ?_
  rintro e w1 ⟨rfl, b1⟩
  have b3 := bb.trans (b1.mono bb.size)
  go_wp2_with fail
  go_ret
  exact ⟨by rw [R0.out]; simp only [HRt.out]; rfl, b3⟩
set_option maxHeartbeats 1000000 in
theorem poss_set {o : Cm} {h : Hp} (hv : Hps.validH h = true) (ho : Hps.okCm o = true) (e2 : o.op = 3) : PossF 130 o h := by
  intro A R n c m d w hs hn hm hc hd
  have R0 := Lib.hid (Hps.canH_set hv ho e2)
  obtain ⟨hb1, hb2⟩ := Hps.okCm_a ho
  obtain ⟨b, hbn⟩ := Int.eq_ofNat_of_zero_le hb1
  have hr4 := (Hps.valid_iff.1 hv).2.2.1
  have hx := List.getElem?_eq_getElem (show b < h.rt.length by omega)
  generalize h.rt[b]'(by omega) = x at hx
  have HRt := Lib.hid (Hps.rootAt_nat hx)
  have ok := Hps.valid_root hv hx
  obtain ⟨op, a, b', cc⟩ := o
  simp only at hbn
  subst hbn
  have bb : Below w.heap.size w ((w.alloc (.cells #[.int .i64 op, .int .i64 b, .int .i64 b', .int .i64 cc] 36)).alloc (.cells #[.slice A n c, .slice R m d] 26)) := ((Below.refl _ _).alloc (Nat.le_refl _) _).alloc (by simp) _
  have s2 := hs.up bb
  clear hb1 hb2 e2 ho hr4
  go_enter Tryd.func130, Tryd.ntmps130
  go_wp2_with fail
  refine (hasRef_any _ _ _ _ _ _ h b cc x _ s2 hn hx ok).mono ?_
  rintro e w1 ⟨rfl, b1⟩
  have b3 := bb.trans (b1.mono bb.size)
  go_wp2_with fail
  go_ret
  exact ⟨by rw [R0.out]; simp only [HRt.out]; rfl, b3⟩
set_option maxHeartbeats 1000000 in
theorem poss_data {o : Cm} {h : Hp} (hv : Hps.validH h = true) (ho : Hps.okCm o = true) (e2 : o.op = 6) : PossF 134 o h := by
  intro A R n c m d w hs hn hm hc hd
  have R0 := Lib.hid (Hps.canH_data hv ho e2)
  obtain ⟨hb1, hb2⟩ := Hps.okCm_a ho
  obtain ⟨b, hbn⟩ := Int.eq_ofNat_of_zero_le hb1
  have hr4 := (Hps.valid_iff.1 hv).2.2.1
  have hx := List.getElem?_eq_getElem (show b < h.rt.length by omega)
  generalize h.rt[b]'(by omega) = x at hx
  have HRt := Lib.hid (Hps.rootAt_nat hx)
  have ok := Hps.valid_root hv hx
  obtain ⟨op, a, b', cc⟩ := o
  simp only at hbn
  subst hbn
  have bb : Below w.heap.size w ((w.alloc (.cells #[.int .i64 op, .int .i64 b, .int .i64 b', .int .i64 cc] 36)).alloc (.cells #[.slice A n c, .slice R m d] 26)) := ((Below.refl _ _).alloc (Nat.le_refl _) _).alloc (by simp) _
  have s2 := hs.below bb
  have hlr := hs.roots.1
  have hb4 : b < m := by
    simp only at hb2
    omega
  obtain ⟨g, og, x', rfl, hg, hx', d1⟩ := s2.roots.at_ (k := b) hb4
  rw [hx] at hx'
  obtain rfl := Option.some.inj hx'
  have hbm : (b : Int) < m := by exact_mod_cast hb4
  have HV := Lib.hid (show (x != -1) = decide (0 ≤ x) by
    rcases okRef_form ok with rfl | ⟨y, rfl, _⟩
    · rfl
    · rw [decide_eq_true (by omega : (0 : Int) ≤ (y : Int)), bne_iff_ne]
      omega)
  clear hb1 hb2 e2 ho hr4 hx hx' s2 hlr hs
  go_enter Tryd.func134, Tryd.ntmps134
  go_wp2_with fail
  go_ret
  exact ⟨by rw [R0.out]; simp only [HRt.out]; rw [← HV.out]; rfl, bb⟩
end Go.Proofs.YtfgdenmlfloloaaDoor

namespace Go.Proofs.YtfgdenmlfloloaaDoor
open Go.RowKit
set_option maxRecDepth 100000
/-- what StepHeap asks of the function in the table -/
def ExecF (g : Nat) (o : Cm) (h : Hp) : Prop := ∀ (w0 w1 : World) (b : Nat) (vc vr : Value) (rvs : List Value), BoxSt w0 w1 b vc vr rvs h →
  Calls Tryd.prog g #[cmV o, .pointer (some ⟨b, 0, none⟩)] w1 fun e w' => (∃ v, e = .returned v) ∧ ∃ vc' vr' rvs', BoxSt w0 w' b vc' vr' rvs' (Hps.doH h o h.cs.length)
theorem BoxSt.form {w0 wr : World} {b : Nat} {vc vr : Value} {rvs : List Value} {h : Hp} (S : BoxSt w0 wr b vc vr rvs h) (hl : 0 < h.rt.length) : ∃ A c gr d, vc = .slice A h.cs.length c ∧ vr = .slice (some ⟨gr, 0, none⟩) h.rt.length d ∧ (0 < h.cs.length → ∃ g, A = some ⟨g, 0, none⟩) := by
  obtain ⟨A, c, R, d, e1, e2, _, _, fA, fR⟩ := S.own.form
  obtain ⟨gr, rfl, _, _⟩ := fR hl
  exact ⟨A, c, gr, d, e1, e2, fun h => by obtain ⟨g, e, _⟩ := fA h; exact ⟨g, e⟩⟩
set_option maxHeartbeats 4000000 in
theorem exec_drop {a : Nat} {ob : Int} {oc : Int} {h : Hp} (hv : Hps.validH h = true) (ha : a < 4) : ExecF 133 ⟨5, a, ob, oc⟩ h := by
  intro w0 w1 b vc vr rvs S0
  have hr4 := (Hps.valid_iff.1 hv).2.2.1
  have HF := Lib.hid (show Hps.doH h ⟨5, a, ob, oc⟩ h.cs.length = ⟨h.cs, h.rt.set a (-1)⟩ by simp [Hps.doH])
  have ham : (a : Int) < 4 := by omega
  have HL := Lib.hid hr4
  obtain ⟨A, c, gr, d, rfl, rfl, -⟩ := S0.form (by omega)
  rw [hr4] at S0
  have S := S0.up ((Below.refl w1.heap.size w1).alloc (Nat.le_refl _) (.cells #[.int .i64 5, .int .i64 a, .int .i64 ob, .int .i64 oc] 36))
  have Q := Rw.new w1 36 #[.int .i64 5, .int .i64 a, .int .i64 ob, .int .i64 oc]
  clear S0 hr4 hv
  go_enter Tryd.func133, Tryd.ntmps133
  go_upto_region 1 with fail
  generalize w1.alloc (.cells #[.int .i64 5, .int .i64 a, .int .i64 ob, .int .i64 oc] 36) = w2 at S Q ⊢
  generalize w1.heap.size = q at Q ⊢
  have y1 : w2.cell? ⟨q, 1, none⟩ = some (.int .i64 a) := Q.cell 1
  have y2 : w2.cell? ⟨q, 2, none⟩ = some (.int .i64 ob) := Q.cell 2
  have y3 : w2.cell? ⟨q, 3, none⟩ = some (.int .i64 oc) := Q.cell 3
  have x1 : w2.cell? ⟨b, 1, none⟩ = some (.slice (some ⟨gr, 0, none⟩) 4 d) := S.box.cell 1
  have SS := Lib.hid S
  clear S Q y2 y3
  go_still_tail 7, (by kernel_rfl)
  change wpList _ _ _ _ _ w2.drew
  have S4 := SS.out.drew
  generalize w2.drew = w4 at S4 ⊢
  obtain ⟨xo, hxo, cr⟩ := S4.own.roots.cell_at (j := a) (by omega)
  have fz : w4.frozen? ⟨gr, a, none⟩ = false := S4.own.roots.frozen HL.out a
  have S5 := S4.root (i := a) HL.out (-1)
  clear S4 SS
  go_wp2_with fail
  go_end0
  exact ⟨⟨_, rfl⟩, _, _, _, by rw [HF.out]; exact S5⟩
set_option maxHeartbeats 4000000 in
theorem exec_copy {a : Nat} {ob : Nat} {oc : Int} {h : Hp} (hv : Hps.validH h = true) (ha : a < 4) (hb : ob < 4) : ExecF 132 ⟨4, a, ob, oc⟩ h := by
  intro w0 w1 b vc vr rvs S0
  have hr4 := (Hps.valid_iff.1 hv).2.2.1
  have ham : (a : Int) < 4 := by omega
  have hbm : (ob : Int) < 4 := by omega
  have hx := List.getElem?_eq_getElem (show ob < h.rt.length by omega)
  generalize h.rt[ob]'(by omega) = x at hx
  have HF := Lib.hid (show Hps.doH h ⟨4, a, ob, oc⟩ h.cs.length = ⟨h.cs, h.rt.set a x⟩ by simp [Hps.doH, Hps.rootAt, hx])
  have HL := Lib.hid hr4
  obtain ⟨A, c, gr, d, rfl, rfl, -⟩ := S0.form (by omega)
  rw [hr4] at S0
  have S := S0.up ((Below.refl w1.heap.size w1).alloc (Nat.le_refl _) (.cells #[.int .i64 4, .int .i64 a, .int .i64 ob, .int .i64 oc] 36))
  have Q := Rw.new w1 36 #[.int .i64 4, .int .i64 a, .int .i64 ob, .int .i64 oc]
  clear S0 hr4 hv
  go_enter Tryd.func132, Tryd.ntmps132
  go_upto_region 1 with fail
  generalize w1.alloc (.cells #[.int .i64 4, .int .i64 a, .int .i64 ob, .int .i64 oc] 36) = w2 at S Q ⊢
  generalize w1.heap.size = q at Q ⊢
  have y1 : w2.cell? ⟨q, 1, none⟩ = some (.int .i64 a) := Q.cell 1
  have y2 : w2.cell? ⟨q, 2, none⟩ = some (.int .i64 ob) := Q.cell 2
  have y3 : w2.cell? ⟨q, 3, none⟩ = some (.int .i64 oc) := Q.cell 3
  have x1 : w2.cell? ⟨b, 1, none⟩ = some (.slice (some ⟨gr, 0, none⟩) 4 d) := S.box.cell 1
  obtain ⟨x2, hx2, cx2⟩ := S.own.roots.cell_at (j := ob) (by omega)
  rw [hx] at hx2
  obtain rfl := Option.some.inj hx2
  have SS := Lib.hid S
  clear S Q y3 hx hx2
  go_still_tail 15, (by kernel_rfl)
  change wpList _ _ _ _ _ w2.drew
  have S4 := SS.out.drew
  generalize w2.drew = w4 at S4 ⊢
  obtain ⟨xo, hxo, cr⟩ := S4.own.roots.cell_at (j := a) (by omega)
  have fz : w4.frozen? ⟨gr, a, none⟩ = false := S4.own.roots.frozen HL.out a
  have S5 := S4.root (i := a) HL.out x
  clear S4 SS
  go_wp2_with fail
  go_end0
  exact ⟨⟨_, rfl⟩, _, _, _, by rw [HF.out]; exact S5⟩
set_option maxHeartbeats 4000000 in
theorem exec_get {a : Nat} {ob : Nat} {oc : Nat} {h : Hp} (hv : Hps.validH h = true) (ha : a < 4) (hb : ob < 4) {k : Nat} {cl : Cl} (hk : Hps.rootAt h ob = k) (hcl : h.cs[k]? = some cl) (hoc : oc < cl.r.length) : ExecF 129 ⟨2, a, ob, oc⟩ h := by
  intro w0 w1 b vc vr rvs S0
  have hr4 := (Hps.valid_iff.1 hv).2.2.1
  have ham : (a : Int) < 4 := by omega
  have hbm : (ob : Int) < 4 := by omega
  have hx := List.getElem?_eq_getElem (show ob < h.rt.length by omega)
  generalize h.rt[ob]'(by omega) = x at hx
  rw [Hps.rootAt_nat hx] at hk
  subst hk
  have hy := List.getElem?_eq_getElem hoc
  generalize cl.r[oc] = y at hy
  have hlk := (List.getElem?_eq_some_iff.1 hcl).1
  obtain ⟨n, hn⟩ : ∃ n, h.cs.length = n := ⟨_, rfl⟩
  have hkn : (k : Int) < n := by omega
  have hck : h.cs[(k : Int).toNat]? = some cl := hcl
  have HF := Lib.hid (show Hps.doH h ⟨2, a, ob, oc⟩ h.cs.length = ⟨h.cs, h.rt.set a y⟩ by simp [Hps.doH, Hps.rootAt, hx, Hps.refAt, hcl, hy])
  have HL := Lib.hid hr4
  obtain ⟨A, c, gr, d, rfl, rfl, -⟩ := S0.form (by omega)
  rw [hr4] at S0
  have S := S0.up ((Below.refl w1.heap.size w1).alloc (Nat.le_refl _) (.cells #[.int .i64 2, .int .i64 a, .int .i64 ob, .int .i64 oc] 36))
  have Q := Rw.new w1 36 #[.int .i64 2, .int .i64 a, .int .i64 ob, .int .i64 oc]
  clear S0 hr4 hv
  go_enter Tryd.func129, Tryd.ntmps129
  go_upto_region 1 with fail
  generalize w1.alloc (.cells #[.int .i64 2, .int .i64 a, .int .i64 ob, .int .i64 oc] 36) = w2 at S Q ⊢
  generalize w1.heap.size = q at Q ⊢
  have y1 : w2.cell? ⟨q, 1, none⟩ = some (.int .i64 a) := Q.cell 1
  have y2 : w2.cell? ⟨q, 2, none⟩ = some (.int .i64 ob) := Q.cell 2
  have y3 : w2.cell? ⟨q, 3, none⟩ = some (.int .i64 oc) := Q.cell 3
  rw [hn] at S
  have x1 : w2.cell? ⟨b, 1, none⟩ = some (.slice (some ⟨gr, 0, none⟩) 4 d) := S.box.cell 1
  obtain ⟨x2, hx2, cx2⟩ := S.own.roots.cell_at (j := ob) (by omega)
  rw [hx] at hx2
  obtain rfl := Option.some.inj hx2
  obtain ⟨gc, v, hA, hg1, hg2, hrv, hov, d0, d1, d2, fzc⟩ := S.own.cell_at (A := A) (n := n) (c := c) (by exact hcl)
  subst hA
  have x0 : w2.cell? ⟨b, 0, none⟩ = some (.slice (some ⟨gc, 0, none⟩) n c) := S.box.cell 0
  obtain ⟨A8, c8, rfl, fA8⟩ := hov.form
  obtain ⟨g8, rfl, _, _⟩ := fA8 (by omega)
  obtain ⟨m8, hm8⟩ : ∃ m8, cl.r.length = m8 := ⟨_, rfl⟩
  rw [hm8] at hov d2 hrv hoc
  obtain ⟨y', hy', cy⟩ := hov.cell_at (j := oc) hoc
  rw [hy] at hy'
  obtain rfl := Option.some.inj hy'
  have hom : (oc : Int) < m8 := by omega
  have SS := Lib.hid S
  clear S Q hx hx2 hck hcl hy hy' hov hrv hm8 hg1 hg2 d0 d1 fzc fA8 hoc
  go_still_tail 26, (by kernel_rfl)
  change wpList _ _ _ _ _ w2.drew
  have S4 := SS.out.drew
  generalize w2.drew = w4 at S4 ⊢
  obtain ⟨xo, hxo, cr⟩ := S4.own.roots.cell_at (j := a) (by omega)
  have fz : w4.frozen? ⟨gr, a, none⟩ = false := S4.own.roots.frozen HL.out a
  have S5 := S4.root (i := a) HL.out y
  clear S4 SS
  go_wp2_with fail
  go_end0
  exact ⟨⟨_, rfl⟩, _, _, _, by rw [HF.out]; exact S5⟩
set_option maxHeartbeats 4000000 in
theorem exec_set {a : Nat} {ob : Nat} {oc : Nat} {h : Hp} (hv : Hps.validH h = true) (ha : a < 4) (hb : ob < 4) {k : Nat} {cl : Cl} (hk : Hps.rootAt h a = k) (hcl : h.cs[k]? = some cl) (hoc : oc < cl.r.length) : ExecF 131 ⟨3, a, ob, oc⟩ h := by
  intro w0 w1 b vc vr rvs S0
  have hr4 := (Hps.valid_iff.1 hv).2.2.1
  have ham : (a : Int) < 4 := by omega
  have hbm : (ob : Int) < 4 := by omega
  have hx := List.getElem?_eq_getElem (show a < h.rt.length by omega)
  generalize h.rt[a]'(by omega) = x at hx
  rw [Hps.rootAt_nat hx] at hk
  subst hk
  have hz := List.getElem?_eq_getElem (show ob < h.rt.length by omega)
  generalize h.rt[ob]'(by omega) = z at hz
  have hlk := (List.getElem?_eq_some_iff.1 hcl).1
  obtain ⟨n, hn⟩ : ∃ n, h.cs.length = n := ⟨_, rfl⟩
  have hkn : (k : Int) < n := by omega
  have HF := Lib.hid (show Hps.doH h ⟨3, a, ob, oc⟩ h.cs.length = ⟨h.cs.set k ⟨cl.u, cl.d, cl.r.set oc z⟩, h.rt⟩ by simp [Hps.doH, Hps.rootAt, hx, hz, Hps.setRef, hcl])
  have HL := Lib.hid hr4
  obtain ⟨A, c, gr, d, rfl, rfl, -⟩ := S0.form (by omega)
  rw [hr4] at S0
  have S := S0.up ((Below.refl w1.heap.size w1).alloc (Nat.le_refl _) (.cells #[.int .i64 3, .int .i64 a, .int .i64 ob, .int .i64 oc] 36))
  have Q := Rw.new w1 36 #[.int .i64 3, .int .i64 a, .int .i64 ob, .int .i64 oc]
  clear S0 hr4 hv
  go_enter Tryd.func131, Tryd.ntmps131
  go_upto_region 1 with fail
  generalize w1.alloc (.cells #[.int .i64 3, .int .i64 a, .int .i64 ob, .int .i64 oc] 36) = w2 at S Q ⊢
  generalize w1.heap.size = q at Q ⊢
  have y1 : w2.cell? ⟨q, 1, none⟩ = some (.int .i64 a) := Q.cell 1
  have y2 : w2.cell? ⟨q, 2, none⟩ = some (.int .i64 ob) := Q.cell 2
  have y3 : w2.cell? ⟨q, 3, none⟩ = some (.int .i64 oc) := Q.cell 3
  rw [hn] at S
  have x1 : w2.cell? ⟨b, 1, none⟩ = some (.slice (some ⟨gr, 0, none⟩) 4 d) := S.box.cell 1
  obtain ⟨x2, hx2, cx2⟩ := S.own.roots.cell_at (j := a) (by omega)
  rw [hx] at hx2
  obtain rfl := Option.some.inj hx2
  obtain ⟨x3, hx3, cx3⟩ := S.own.roots.cell_at (j := ob) (by omega)
  rw [hz] at hx3
  obtain rfl := Option.some.inj hx3
  obtain ⟨gc, v, hA, hg1, hg2, hrv, hov, d0, d1, d2, fzc⟩ := S.own.cell_at (A := A) (n := n) (c := c) (by exact hcl)
  subst hA
  have x0 : w2.cell? ⟨b, 0, none⟩ = some (.slice (some ⟨gc, 0, none⟩) n c) := S.box.cell 0
  obtain ⟨A8, c8, rfl, fA8⟩ := hov.form
  obtain ⟨g8, rfl, _, _⟩ := fA8 (by omega)
  obtain ⟨m8, hm8⟩ : ∃ m8, cl.r.length = m8 := ⟨_, rfl⟩
  rw [hm8] at hov d2 hrv hoc
  have hom : (oc : Int) < m8 := by omega
  obtain ⟨yo, hyo, cyo⟩ := hov.cell_at (j := oc) hoc
  have fzo : w2.frozen? ⟨g8, oc, none⟩ = false := hov.frozen hm8 oc
  have SS := Lib.hid S
  have HCL := Lib.hid hcl
  have HRV := Lib.hid hrv
  have HM8 := Lib.hid hm8
  clear S Q hx hx2 hx3 hz hcl hyo hov hrv hm8 hg1 hg2 d0 d1 fzc fA8 hoc
  go_still_tail 26, (by kernel_rfl)
  change wpList _ _ _ _ _ w2.drew
  have S4 := SS.out.drew
  have FZ := Lib.hid (show w2.drew.frozen? ⟨g8, oc, none⟩ = false from fzo)
  have CR := Lib.hid (show w2.drew.cell? ⟨g8, oc, none⟩ = some (.int .i64 yo) from cyo)
  generalize w2.drew = w4 at S4 FZ CR ⊢
  have fz : w4.frozen? ⟨g8, oc, none⟩ = false := FZ.out
  have cr : w4.cell? ⟨g8, oc, none⟩ = some (.int .i64 yo) := CR.out
  have S5 := S4.ref1 (i := oc) HCL.out HRV.out HM8.out z
  clear S4 SS
  go_wp2_with fail
  go_end0
  exact ⟨⟨_, rfl⟩, _, _, _, by rw [HF.out]; exact S5⟩
set_option maxHeartbeats 4000000 in
theorem exec_data {a : Nat} {ob : Int} {oc : Int} {h : Hp} (hv : Hps.validH h = true) (ha : a < 4) {k : Nat} {cl : Cl} (hk : Hps.rootAt h a = k) (hcl : h.cs[k]? = some cl) : ExecF 135 ⟨6, a, ob, oc⟩ h := by
  intro w0 w1 b vc vr rvs S0
  have hr4 := (Hps.valid_iff.1 hv).2.2.1
  have ham : (a : Int) < 4 := by omega
  have hx := List.getElem?_eq_getElem (show a < h.rt.length by omega)
  generalize h.rt[a]'(by omega) = x at hx
  rw [Hps.rootAt_nat hx] at hk
  subst hk
  have hlk := (List.getElem?_eq_some_iff.1 hcl).1
  obtain ⟨n, hn⟩ : ∃ n, h.cs.length = n := ⟨_, rfl⟩
  have hkn : (k : Int) < n := by omega
  have HF := Lib.hid (show Hps.doH h ⟨6, a, ob, oc⟩ h.cs.length = ⟨h.cs.set k ⟨cl.u, ob, cl.r⟩, h.rt⟩ by simp [Hps.doH, Hps.rootAt, hx, Hps.setDat, hcl])
  have HL := Lib.hid hr4
  obtain ⟨A, c, gr, d, rfl, rfl, -⟩ := S0.form (by omega)
  rw [hr4] at S0
  have S := S0.up ((Below.refl w1.heap.size w1).alloc (Nat.le_refl _) (.cells #[.int .i64 6, .int .i64 a, .int .i64 ob, .int .i64 oc] 36))
  have Q := Rw.new w1 36 #[.int .i64 6, .int .i64 a, .int .i64 ob, .int .i64 oc]
  clear S0 hr4 hv
  go_enter Tryd.func135, Tryd.ntmps135
  go_upto_region 1 with fail
  generalize w1.alloc (.cells #[.int .i64 6, .int .i64 a, .int .i64 ob, .int .i64 oc] 36) = w2 at S Q ⊢
  generalize w1.heap.size = q at Q ⊢
  have y1 : w2.cell? ⟨q, 1, none⟩ = some (.int .i64 a) := Q.cell 1
  have y2 : w2.cell? ⟨q, 2, none⟩ = some (.int .i64 ob) := Q.cell 2
  have y3 : w2.cell? ⟨q, 3, none⟩ = some (.int .i64 oc) := Q.cell 3
  rw [hn] at S
  have x1 : w2.cell? ⟨b, 1, none⟩ = some (.slice (some ⟨gr, 0, none⟩) 4 d) := S.box.cell 1
  obtain ⟨x2, hx2, cx2⟩ := S.own.roots.cell_at (j := a) (by omega)
  rw [hx] at hx2
  obtain rfl := Option.some.inj hx2
  obtain ⟨gc, v, hA, hg1, hg2, hrv, hov, d0, d1, d2, fzc⟩ := S.own.cell_at (A := A) (n := n) (c := c) (by exact hcl)
  subst hA
  have x0 : w2.cell? ⟨b, 0, none⟩ = some (.slice (some ⟨gc, 0, none⟩) n c) := S.box.cell 0
  have fzo := fzc (k * 3 + 1)
  have SS := Lib.hid S
  have HCL := Lib.hid hcl
  have HN := Lib.hid hn
  clear S Q hx hx2 hcl hov hrv hg1 hg2 d0 d2 fzc hn
  go_still_tail 16, (by kernel_rfl)
  change wpList _ _ _ _ _ w2.drew
  have S4 := SS.out.drew
  have FZ := Lib.hid (show w2.drew.frozen? ⟨gc, k * 3 + 1, none⟩ = false from fzo)
  have CR := Lib.hid (show w2.drew.cell? ⟨gc, k * 3 + 1, none⟩ = some (.int .i64 cl.d) from d1)
  generalize w2.drew = w4 at S4 FZ CR ⊢
  have fz : w4.frozen? ⟨gc, k * 3 + 1, none⟩ = false := FZ.out
  have cr : w4.cell? ⟨gc, k * 3 + 1, none⟩ = some (.int .i64 cl.d) := CR.out
  have S5 := S4.data HN.out HCL.out ob
  clear S4 SS
  go_wp2_with fail
  go_end0
  exact ⟨⟨_, rfl⟩, _, _, _, by rw [HF.out]; exact S5⟩
end Go.Proofs.YtfgdenmlfloloaaDoor

namespace Go.Proofs.YtfgdenmlfloloaaDoor
open Go.RowKit
set_option maxRecDepth 100000
theorem info_intsize : (Tryd.prog.info? 3).map (·.size) = some 1 := by kernel_rfl
/-- k times -1, then 0 up to N -/
def repN (N k : Nat) : List Value := List.replicate k (.int .i64 (-1)) ++ List.replicate (N - k) (.int .i64 0)
def RowN (w : World) (g N k : Nat) : Prop := w.heap[g]? = some (.cells (repN N k).toArray 3 (0, 0))
theorem RowN.cell {w : World} {g N k j : Nat} (h : RowN w g N k) (hj : j < k) : w.cell? ⟨g, j, none⟩ = some (.int .i64 (-1)) := by
  have : (repN N k)[j]? = some (.int .i64 (-1)) := by
    unfold repN
    rw [List.getElem?_append_left (by simpa using hj)]
    simp [hj]
  have e : w.cell? ⟨g, j, none⟩ = (repN N k).toArray[j]? := Rw.cell (cs := (repN N k).toArray) h j
  rw [e]
  simpa using this
theorem RowN.put {w : World} {g N k : Nat} (h : RowN w g N k) (j : Nat) : RowN (w.setRow g (repN N j).toArray) g N j := setRow_heap w g _ _ _ _ h
theorem mulN64_0 (w : World) : Calls Tryd.prog 140 #[.int .u64 1, .int .u64 0] w fun e w' => e = .returned (.tuple #[.int .u64 0, .int .u64 0]) ∧ w = w' := by
  go_enter Tryd.func140, Tryd.ntmps140
  go_wp2_with fail
  go_ret2
  exact ⟨rfl, rfl⟩
theorem mulN_0 (w : World) : Calls Tryd.prog 124 #[.int .u64 1, .int .u64 0] w fun e w' => e = .returned (.tuple #[.int .u64 0, .int .u64 0]) ∧ w = w' := by
  go_enter Tryd.func124, Tryd.ntmps124
  go_wp2_with fail
  refine (mulN64_0 _).mono ?_
  rintro e w1 ⟨rfl, rfl⟩
  go_wp2_with fail
  go_ret2
  exact ⟨rfl, rfl⟩
theorem copyN_first_0 {w : World} {g g0 : Nat} (hr : RowN w g0 0 0) (_hc : w.cell? ⟨g, 0, none⟩ = some (.int .i64 (-1))) (ty : TypeId) :
    (Builtin.copy_ #[24, 24] ty #[.slice (some ⟨g0, 0, none⟩) 0 0, .slice (some ⟨g, 0, none⟩) 1 1]).run Tryd.prog w = .ok (.int .i64 0) (w.setRow g0 (repN 0 0).toArray) :=
  run_copy_row (P := Tryd.prog) w 24 24 ty 3 g0 0 0 0 ⟨g, 0, none⟩ 1 1 (repN 0 0).toArray 3 [] Tryd.underlying24 info_intsize hr rfl (by
    intro j v hj
    simp at hj) (by decide) (by intro v hv; simp at hv)
set_option maxHeartbeats 1000000 in
theorem repeat_0 (g : Nat) (w : World) (hg : g < w.heap.size) (hc : w.cell? ⟨g, 0, none⟩ = some (.int .i64 (-1))) :
    Calls Tryd.prog 100 #[.slice (some ⟨g, 0, none⟩) 1 1, .int .i64 0] w (GaveI w (List.replicate 0 (-1))) := by
  have hmk := makeI w 0 (by omega)
  have b2 : Below w.heap.size w (w.alloc (.cells (Array.replicate 0 (.int .i64 0)) 3)) := (Below.refl _ _).alloc (Nat.le_refl _) _
  have k2 : RowN (w.alloc (.cells (Array.replicate 0 (.int .i64 0)) 3)) w.heap.size 0 0 := Rw.new w 3 (Array.replicate 0 (.int .i64 0))
  have hc2 := (b2.cell (p := ⟨g, 0, none⟩) hg).trans hc
  obtain ⟨w2, hw2⟩ : ∃ w2, w.alloc (.cells (Array.replicate 0 (.int .i64 0)) 3) = w2 := ⟨_, rfl⟩
  rw [hw2] at hmk b2 k2 hc2
  obtain ⟨G, hG⟩ : ∃ G, w.heap.size = G := ⟨_, rfl⟩
  rw [hG] at hmk b2 k2
  simp at hmk
  have hcp := copyN_first_0 k2 hc2
  have k3 := k2.put 0
  have b3 : Below G w (w2.setRow G (repN 0 0).toArray) := below_setRow b2 (Nat.le_refl _) _
  obtain ⟨w3, hw3⟩ : ∃ w3, w2.setRow G (repN 0 0).toArray = w3 := ⟨_, rfl⟩
  rw [hw3] at hcp k3 b3
  clear hw2 hw3
  go_enter Tryd.func100, Tryd.ntmps100
  go_wp2_with fail
  refine (mulN_0 _).mono ?_
  rintro e w1 ⟨rfl, rfl⟩
  go_wp2_with fail
  clear k2 hc2 hmk hcp b2
  go_loopw [8] (fun v wr => ∃ k : Nat, (k = 0) ∧ v = .int .i64 k ∧ RowN wr G 0 k ∧ Below G w wr) (fun v _ => 0 - (intOf v).toNat)
  case atStart => exact ⟨0, rfl, rfl, k3, b3⟩
  case round =>
    clear k3 b3
    obtain ⟨k, hk, rfl, hr, bb⟩ := hrel
    subst hk
    · go_wp2_with fail
      go_ret
      refine ⟨_, rfl, ⟨by simp, .inr ⟨G, 0, (repN 0 0).toArray, by simp, by omega, hr, by simp, by unfold maxLen; omega, by decide, rfl⟩⟩, by rw [hG]; exact bb⟩
theorem mulN64_1 (w : World) : Calls Tryd.prog 140 #[.int .u64 1, .int .u64 1] w fun e w' => e = .returned (.tuple #[.int .u64 0, .int .u64 1]) ∧ w = w' := by
  go_enter Tryd.func140, Tryd.ntmps140
  go_wp2_with fail
  go_ret2
  exact ⟨rfl, rfl⟩
theorem mulN_1 (w : World) : Calls Tryd.prog 124 #[.int .u64 1, .int .u64 1] w fun e w' => e = .returned (.tuple #[.int .u64 0, .int .u64 1]) ∧ w = w' := by
  go_enter Tryd.func124, Tryd.ntmps124
  go_wp2_with fail
  refine (mulN64_1 _).mono ?_
  rintro e w1 ⟨rfl, rfl⟩
  go_wp2_with fail
  go_ret2
  exact ⟨rfl, rfl⟩
theorem copyN_first_1 {w : World} {g g0 : Nat} (hr : RowN w g0 1 0) (hc : w.cell? ⟨g, 0, none⟩ = some (.int .i64 (-1))) (ty : TypeId) :
    (Builtin.copy_ #[24, 24] ty #[.slice (some ⟨g0, 0, none⟩) 1 1, .slice (some ⟨g, 0, none⟩) 1 1]).run Tryd.prog w = .ok (.int .i64 1) (w.setRow g0 (repN 1 1).toArray) :=
  run_copy_row (P := Tryd.prog) w 24 24 ty 3 g0 0 1 1 ⟨g, 0, none⟩ 1 1 (repN 1 0).toArray 3 [.int .i64 (-1)] Tryd.underlying24 info_intsize hr rfl (by
    intro j v hj
    match j, hj with
    | 0, hj => simp at hj; subst hj; exact hc) (by decide) (by intro v hv; simp at hv; subst hv; rfl)
set_option maxHeartbeats 1000000 in
theorem repeat_1 (g : Nat) (w : World) (hg : g < w.heap.size) (hc : w.cell? ⟨g, 0, none⟩ = some (.int .i64 (-1))) :
    Calls Tryd.prog 100 #[.slice (some ⟨g, 0, none⟩) 1 1, .int .i64 1] w (GaveI w (List.replicate 1 (-1))) := by
  have hmk := makeI w 1 (by omega)
  have b2 : Below w.heap.size w (w.alloc (.cells (Array.replicate 1 (.int .i64 0)) 3)) := (Below.refl _ _).alloc (Nat.le_refl _) _
  have k2 : RowN (w.alloc (.cells (Array.replicate 1 (.int .i64 0)) 3)) w.heap.size 1 0 := Rw.new w 3 (Array.replicate 1 (.int .i64 0))
  have hc2 := (b2.cell (p := ⟨g, 0, none⟩) hg).trans hc
  obtain ⟨w2, hw2⟩ : ∃ w2, w.alloc (.cells (Array.replicate 1 (.int .i64 0)) 3) = w2 := ⟨_, rfl⟩
  rw [hw2] at hmk b2 k2 hc2
  obtain ⟨G, hG⟩ : ∃ G, w.heap.size = G := ⟨_, rfl⟩
  rw [hG] at hmk b2 k2
  simp at hmk
  have hcp := copyN_first_1 k2 hc2
  have k3 := k2.put 1
  have b3 : Below G w (w2.setRow G (repN 1 1).toArray) := below_setRow b2 (Nat.le_refl _) _
  obtain ⟨w3, hw3⟩ : ∃ w3, w2.setRow G (repN 1 1).toArray = w3 := ⟨_, rfl⟩
  rw [hw3] at hcp k3 b3
  clear hw2 hw3
  go_enter Tryd.func100, Tryd.ntmps100
  go_wp2_with fail
  refine (mulN_1 _).mono ?_
  rintro e w1 ⟨rfl, rfl⟩
  go_wp2_with fail
  clear k2 hc2 hmk hcp b2
  go_loopw [8] (fun v wr => ∃ k : Nat, (k = 1) ∧ v = .int .i64 k ∧ RowN wr G 1 k ∧ Below G w wr) (fun v _ => 1 - (intOf v).toNat)
  case atStart => exact ⟨1, rfl, rfl, k3, b3⟩
  case round =>
    clear k3 b3
    obtain ⟨k, hk, rfl, hr, bb⟩ := hrel
    subst hk
    · go_wp2_with fail
      go_ret
      refine ⟨_, rfl, ⟨by simp, .inr ⟨G, 1, (repN 1 1).toArray, by simp, by omega, hr, by simp, by unfold maxLen; omega, by decide, rfl⟩⟩, by rw [hG]; exact bb⟩
theorem mulN64_2 (w : World) : Calls Tryd.prog 140 #[.int .u64 1, .int .u64 2] w fun e w' => e = .returned (.tuple #[.int .u64 0, .int .u64 2]) ∧ w = w' := by
  go_enter Tryd.func140, Tryd.ntmps140
  go_wp2_with fail
  go_ret2
  exact ⟨rfl, rfl⟩
theorem mulN_2 (w : World) : Calls Tryd.prog 124 #[.int .u64 1, .int .u64 2] w fun e w' => e = .returned (.tuple #[.int .u64 0, .int .u64 2]) ∧ w = w' := by
  go_enter Tryd.func124, Tryd.ntmps124
  go_wp2_with fail
  refine (mulN64_2 _).mono ?_
  rintro e w1 ⟨rfl, rfl⟩
  go_wp2_with fail
  go_ret2
  exact ⟨rfl, rfl⟩
theorem copyN_first_2 {w : World} {g g0 : Nat} (hr : RowN w g0 2 0) (hc : w.cell? ⟨g, 0, none⟩ = some (.int .i64 (-1))) (ty : TypeId) :
    (Builtin.copy_ #[24, 24] ty #[.slice (some ⟨g0, 0, none⟩) 2 2, .slice (some ⟨g, 0, none⟩) 1 1]).run Tryd.prog w = .ok (.int .i64 1) (w.setRow g0 (repN 2 1).toArray) :=
  run_copy_row (P := Tryd.prog) w 24 24 ty 3 g0 0 2 2 ⟨g, 0, none⟩ 1 1 (repN 2 0).toArray 3 [.int .i64 (-1)] Tryd.underlying24 info_intsize hr rfl (by
    intro j v hj
    match j, hj with
    | 0, hj => simp at hj; subst hj; exact hc) (by decide) (by intro v hv; simp at hv; subst hv; rfl)
theorem copyN_2_1 {w : World} {g : Nat} (h : RowN w g 2 1) (ty : TypeId) :
    (Builtin.copy_ #[24, 24] ty #[.slice (some ⟨g, 1, none⟩) 1 1, .slice (some ⟨g, 0, none⟩) 1 2]).run Tryd.prog w = .ok (.int .i64 1) (w.setRow g (repN 2 2).toArray) :=
  run_copy_row (P := Tryd.prog) w 24 24 ty 3 g 1 1 1 ⟨g, 0, none⟩ 1 2 (repN 2 1).toArray 3 [.int .i64 (-1)] Tryd.underlying24 info_intsize h rfl (by
    intro j v hj
    match j, hj with
    | 0, hj => simp at hj; subst hj; exact h.cell (j := 0) (by omega)) (by decide) (by intro v hv; simp at hv; subst hv; rfl)
set_option maxHeartbeats 1000000 in
theorem repeat_2 (g : Nat) (w : World) (hg : g < w.heap.size) (hc : w.cell? ⟨g, 0, none⟩ = some (.int .i64 (-1))) :
    Calls Tryd.prog 100 #[.slice (some ⟨g, 0, none⟩) 1 1, .int .i64 2] w (GaveI w (List.replicate 2 (-1))) := by
  have hmk := makeI w 2 (by omega)
  have b2 : Below w.heap.size w (w.alloc (.cells (Array.replicate 2 (.int .i64 0)) 3)) := (Below.refl _ _).alloc (Nat.le_refl _) _
  have k2 : RowN (w.alloc (.cells (Array.replicate 2 (.int .i64 0)) 3)) w.heap.size 2 0 := Rw.new w 3 (Array.replicate 2 (.int .i64 0))
  have hc2 := (b2.cell (p := ⟨g, 0, none⟩) hg).trans hc
  obtain ⟨w2, hw2⟩ : ∃ w2, w.alloc (.cells (Array.replicate 2 (.int .i64 0)) 3) = w2 := ⟨_, rfl⟩
  rw [hw2] at hmk b2 k2 hc2
  obtain ⟨G, hG⟩ : ∃ G, w.heap.size = G := ⟨_, rfl⟩
  rw [hG] at hmk b2 k2
  simp at hmk
  have hcp := copyN_first_2 k2 hc2
  have k3 := k2.put 1
  have b3 : Below G w (w2.setRow G (repN 2 1).toArray) := below_setRow b2 (Nat.le_refl _) _
  obtain ⟨w3, hw3⟩ : ∃ w3, w2.setRow G (repN 2 1).toArray = w3 := ⟨_, rfl⟩
  rw [hw3] at hcp k3 b3
  clear hw2 hw3
  go_enter Tryd.func100, Tryd.ntmps100
  go_wp2_with fail
  refine (mulN_2 _).mono ?_
  rintro e w1 ⟨rfl, rfl⟩
  go_wp2_with fail
  clear k2 hc2 hmk hcp b2
  go_loopw [8] (fun v wr => ∃ k : Nat, (k = 1 ∨ k = 2) ∧ v = .int .i64 k ∧ RowN wr G 2 k ∧ Below G w wr) (fun v _ => 2 - (intOf v).toNat)
  case atStart => exact ⟨1, .inl rfl, rfl, k3, b3⟩
  case round =>
    clear k3 b3
    obtain ⟨k, hk, rfl, hr, bb⟩ := hrel
    rcases hk with rfl | rfl
    · have hcp := copyN_2_1 (w := wr.drew) hr
      have kn := RowN.put (w := wr.drew) hr 2
      have bn : Below G w (wr.drew.setRow G (repN 2 2).toArray) := below_setRow bb.drew (Nat.le_refl _) _
      obtain ⟨w3, hw3⟩ : ∃ w3, wr.drew.setRow G (repN 2 2).toArray = w3 := ⟨_, rfl⟩
      rw [hw3] at hcp kn bn
      clear hw3
      go_wp2_with fail
      go_region
      go_wp2
      go_roundw
      case rel => exact ⟨2, .inr rfl, rfl, kn, bn⟩
      case measure => simp [intOf]
    · go_wp2_with fail
      go_ret
      refine ⟨_, rfl, ⟨by simp, .inr ⟨G, 2, (repN 2 2).toArray, by simp, by omega, hr, by simp, by unfold maxLen; omega, by decide, rfl⟩⟩, by rw [hG]; exact bb⟩
theorem mulN64_3 (w : World) : Calls Tryd.prog 140 #[.int .u64 1, .int .u64 3] w fun e w' => e = .returned (.tuple #[.int .u64 0, .int .u64 3]) ∧ w = w' := by
  go_enter Tryd.func140, Tryd.ntmps140
  go_wp2_with fail
  go_ret2
  exact ⟨rfl, rfl⟩
theorem mulN_3 (w : World) : Calls Tryd.prog 124 #[.int .u64 1, .int .u64 3] w fun e w' => e = .returned (.tuple #[.int .u64 0, .int .u64 3]) ∧ w = w' := by
  go_enter Tryd.func124, Tryd.ntmps124
  go_wp2_with fail
  refine (mulN64_3 _).mono ?_
  rintro e w1 ⟨rfl, rfl⟩
  go_wp2_with fail
  go_ret2
  exact ⟨rfl, rfl⟩
theorem copyN_first_3 {w : World} {g g0 : Nat} (hr : RowN w g0 3 0) (hc : w.cell? ⟨g, 0, none⟩ = some (.int .i64 (-1))) (ty : TypeId) :
    (Builtin.copy_ #[24, 24] ty #[.slice (some ⟨g0, 0, none⟩) 3 3, .slice (some ⟨g, 0, none⟩) 1 1]).run Tryd.prog w = .ok (.int .i64 1) (w.setRow g0 (repN 3 1).toArray) :=
  run_copy_row (P := Tryd.prog) w 24 24 ty 3 g0 0 3 3 ⟨g, 0, none⟩ 1 1 (repN 3 0).toArray 3 [.int .i64 (-1)] Tryd.underlying24 info_intsize hr rfl (by
    intro j v hj
    match j, hj with
    | 0, hj => simp at hj; subst hj; exact hc) (by decide) (by intro v hv; simp at hv; subst hv; rfl)
theorem copyN_3_1 {w : World} {g : Nat} (h : RowN w g 3 1) (ty : TypeId) :
    (Builtin.copy_ #[24, 24] ty #[.slice (some ⟨g, 1, none⟩) 2 2, .slice (some ⟨g, 0, none⟩) 1 3]).run Tryd.prog w = .ok (.int .i64 1) (w.setRow g (repN 3 2).toArray) :=
  run_copy_row (P := Tryd.prog) w 24 24 ty 3 g 1 2 2 ⟨g, 0, none⟩ 1 3 (repN 3 1).toArray 3 [.int .i64 (-1)] Tryd.underlying24 info_intsize h rfl (by
    intro j v hj
    match j, hj with
    | 0, hj => simp at hj; subst hj; exact h.cell (j := 0) (by omega)) (by decide) (by intro v hv; simp at hv; subst hv; rfl)
theorem copyN_3_2 {w : World} {g : Nat} (h : RowN w g 3 2) (ty : TypeId) :
    (Builtin.copy_ #[24, 24] ty #[.slice (some ⟨g, 2, none⟩) 1 1, .slice (some ⟨g, 0, none⟩) 2 3]).run Tryd.prog w = .ok (.int .i64 1) (w.setRow g (repN 3 3).toArray) :=
  run_copy_row (P := Tryd.prog) w 24 24 ty 3 g 2 1 1 ⟨g, 0, none⟩ 2 3 (repN 3 2).toArray 3 [.int .i64 (-1)] Tryd.underlying24 info_intsize h rfl (by
    intro j v hj
    match j, hj with
    | 0, hj => simp at hj; subst hj; exact h.cell (j := 0) (by omega)) (by decide) (by intro v hv; simp at hv; subst hv; rfl)
set_option maxHeartbeats 1000000 in
theorem repeat_3 (g : Nat) (w : World) (hg : g < w.heap.size) (hc : w.cell? ⟨g, 0, none⟩ = some (.int .i64 (-1))) :
    Calls Tryd.prog 100 #[.slice (some ⟨g, 0, none⟩) 1 1, .int .i64 3] w (GaveI w (List.replicate 3 (-1))) := by
  have hmk := makeI w 3 (by omega)
  have b2 : Below w.heap.size w (w.alloc (.cells (Array.replicate 3 (.int .i64 0)) 3)) := (Below.refl _ _).alloc (Nat.le_refl _) _
  have k2 : RowN (w.alloc (.cells (Array.replicate 3 (.int .i64 0)) 3)) w.heap.size 3 0 := Rw.new w 3 (Array.replicate 3 (.int .i64 0))
  have hc2 := (b2.cell (p := ⟨g, 0, none⟩) hg).trans hc
  obtain ⟨w2, hw2⟩ : ∃ w2, w.alloc (.cells (Array.replicate 3 (.int .i64 0)) 3) = w2 := ⟨_, rfl⟩
  rw [hw2] at hmk b2 k2 hc2
  obtain ⟨G, hG⟩ : ∃ G, w.heap.size = G := ⟨_, rfl⟩
  rw [hG] at hmk b2 k2
  simp at hmk
  have hcp := copyN_first_3 k2 hc2
  have k3 := k2.put 1
  have b3 : Below G w (w2.setRow G (repN 3 1).toArray) := below_setRow b2 (Nat.le_refl _) _
  obtain ⟨w3, hw3⟩ : ∃ w3, w2.setRow G (repN 3 1).toArray = w3 := ⟨_, rfl⟩
  rw [hw3] at hcp k3 b3
  clear hw2 hw3
  go_enter Tryd.func100, Tryd.ntmps100
  go_wp2_with fail
  refine (mulN_3 _).mono ?_
  rintro e w1 ⟨rfl, rfl⟩
  go_wp2_with fail
  clear k2 hc2 hmk hcp b2
  go_loopw [8] (fun v wr => ∃ k : Nat, (k = 1 ∨ k = 2 ∨ k = 3) ∧ v = .int .i64 k ∧ RowN wr G 3 k ∧ Below G w wr) (fun v _ => 3 - (intOf v).toNat)
  case atStart => exact ⟨1, .inl rfl, rfl, k3, b3⟩
  case round =>
    clear k3 b3
    obtain ⟨k, hk, rfl, hr, bb⟩ := hrel
    rcases hk with rfl | rfl | rfl
    · have hcp := copyN_3_1 (w := wr.drew) hr
      have kn := RowN.put (w := wr.drew) hr 2
      have bn : Below G w (wr.drew.setRow G (repN 3 2).toArray) := below_setRow bb.drew (Nat.le_refl _) _
      obtain ⟨w3, hw3⟩ : ∃ w3, wr.drew.setRow G (repN 3 2).toArray = w3 := ⟨_, rfl⟩
      rw [hw3] at hcp kn bn
      clear hw3
      go_wp2_with fail
      go_region
      go_wp2
      go_roundw
      case rel => exact ⟨2, .inr (.inl rfl), rfl, kn, bn⟩
      case measure => simp [intOf]
    · have hcp := copyN_3_2 (w := wr.drew) hr
      have kn := RowN.put (w := wr.drew) hr 3
      have bn : Below G w (wr.drew.setRow G (repN 3 3).toArray) := below_setRow bb.drew (Nat.le_refl _) _
      obtain ⟨w3, hw3⟩ : ∃ w3, wr.drew.setRow G (repN 3 3).toArray = w3 := ⟨_, rfl⟩
      rw [hw3] at hcp kn bn
      clear hw3
      go_wp2_with fail
      go_region
      go_wp2
      go_roundw
      case rel => exact ⟨3, .inr (.inr rfl), rfl, kn, bn⟩
      case measure => simp [intOf]
    · go_wp2_with fail
      go_ret
      refine ⟨_, rfl, ⟨by simp, .inr ⟨G, 3, (repN 3 3).toArray, by simp, by omega, hr, by simp, by unfold maxLen; omega, by decide, rfl⟩⟩, by rw [hG]; exact bb⟩
theorem repeat_ones (n : Nat) (hn : n ≤ 3) (g : Nat) (w : World) (hg : g < w.heap.size) (hc : w.cell? ⟨g, 0, none⟩ = some (.int .i64 (-1))) :
    Calls Tryd.prog 100 #[.slice (some ⟨g, 0, none⟩) 1 1, .int .i64 n] w (GaveI w (List.replicate n (-1))) := by
  obtain rfl | rfl | rfl | rfl : n = 0 ∨ n = 1 ∨ n = 2 ∨ n = 3 := by omega
  · exact repeat_0 g w hg hc
  · exact repeat_1 g w hg hc
  · exact repeat_2 g w hg hc
  · exact repeat_3 g w hg hc
end Go.Proofs.YtfgdenmlfloloaaDoor

namespace Go.Proofs.YtfgdenmlfloloaaDoor
open Go.RowKit
set_option maxRecDepth 100000
set_option maxHeartbeats 4000000 in
theorem madeCell_any {ob : Nat} {op a oc : Int} (hb3 : ob ≤ 3) (w : World) : Calls Tryd.prog 106 #[cmV ⟨op, a, ob, oc⟩] w fun e w' => ∃ v8, e = .returned (.agg #[.bool true, .int .i64 oc, v8]) ∧ OwnI w' w.heap.size v8 (List.replicate ob (-1)) ∧ Below w.heap.size w w' := by
  have B2 : Below w.heap.size w ((w.alloc (.cells #[.int .i64 op, .int .i64 a, .int .i64 ob, .int .i64 oc] 36)).alloc (.cells #[.bool false, .int .i64 0, .slice none 0 0] 43)) := ((Below.refl _ _).alloc (Nat.le_refl _) _).alloc (by simp) _
  have Q1 := (Rw.new w 36 #[.int .i64 op, .int .i64 a, .int .i64 ob, .int .i64 oc]).alloc (.cells #[.bool false, .int .i64 0, .slice none 0 0] 43)
  have Q2 := Rw.new (w.alloc (.cells #[.int .i64 op, .int .i64 a, .int .i64 ob, .int .i64 oc] 36)) 43 #[.bool false, .int .i64 0, .slice none 0 0]
  simp only [World.size_alloc] at Q2
  go_enter Tryd.func106, Tryd.ntmps106
  go_upto_region 1 with fail
  generalize ((w.alloc (.cells #[.int .i64 op, .int .i64 a, .int .i64 ob, .int .i64 oc] 36)).alloc (.cells #[.bool false, .int .i64 0, .slice none 0 0] 43)) = w2 at B2 Q1 Q2 ⊢
  obtain ⟨q, hq⟩ : ∃ q, w.heap.size = q := ⟨_, rfl⟩
  rw [hq] at B2 Q1 Q2 ⊢
  have HQ := Lib.hid hq
  clear hq
  have hql := Q1.lt
  have hrl := Q2.lt
  have y2 : w2.cell? ⟨q, 2, none⟩ = some (.int .i64 ob) := Q1.cell 2
  have y3 : w2.cell? ⟨q, 3, none⟩ = some (.int .i64 oc) := Q1.cell 3
  refine wp_region_inv (by kernel_rfl) (by kernel_rfl) (fun L ac ww => ∃ t3 t4 t5 t6 t7 t8 t9 : Value, ac = { tmps := #[cmV { op := op, a := a, b := ↑ob, c := oc }, Value.pointer (some { block := q, off := 0 }), Value.pointer (some { block := q + 1, off := 0 }), t3, t4, t5, t6, t7, t8, t9], defers := [] } ∧ (L 7 = false → Below w2.heap.size w2 ww) ∧ (L 0 = true → t3 = .pointer (some ⟨q, 3, none⟩)) ∧ (L 1 = true → t4 = .int .i64 oc) ∧ (L 2 = true → ∃ g2, t5 = .slice (some ⟨g2, 0, none⟩) 1 1 ∧ (L 5 = false → g2 < ww.heap.size ∧ ww.cell? ⟨g2, 0, none⟩ = some (.int .i64 (-1)))) ∧ (L 3 = true → t6 = .pointer (some ⟨q, 2, none⟩)) ∧ (L 4 = true → t7 = .int .i64 ob) ∧ (L 5 = true → ∃ A8 c8, t8 = .slice A8 ob c8 ∧ (L 7 = false → OwnI ww w2.heap.size t8 (List.replicate ob (-1)))) ∧ (L 6 = true → t9 = .agg #[.bool true, .int .i64 oc, t8] ∧ L 5 = true) ∧ (L 7 = true → (∀ q, q < 7 → L q = true) ∧ ∃ wp, ww = ((wp.setCell ⟨q + 1, 0, none⟩ (.bool true)).setCell ⟨q + 1, 1, none⟩ (.int .i64 oc)).setCell ⟨q + 1, 2, none⟩ t8 ∧ Below w2.heap.size w2 wp ∧ OwnI wp w2.heap.size t8 (List.replicate ob (-1)))) ?h0 ?hstep ?hdone
  case h0 => exact ⟨_, _, _, _, _, _, _, rfl, fun _ => (Below.refl _ _).drew, (fun h => absurd h Bool.false_ne_true), (fun h => absurd h Bool.false_ne_true), (fun h => absurd h Bool.false_ne_true), (fun h => absurd h Bool.false_ne_true), (fun h => absurd h Bool.false_ne_true), (fun h => absurd h Bool.false_ne_true), (fun h => absurd h Bool.false_ne_true), (fun h => absurd h Bool.false_ne_true)⟩
  case hstep =>
    rintro L ac ww i o ho hL hd ⟨t3, t4, t5, t6, t7, t8, t9, rfl, I0, f0, f1, f2, f3, f4, f5, f6, f7⟩
    have hi : i < 8 := (Array.getElem?_eq_some_iff.1 ho).1
    obtain rfl | rfl | rfl | rfl | rfl | rfl | rfl | rfl : i = 0 ∨ i = 1 ∨ i = 2 ∨ i = 3 ∨ i = 4 ∨ i = 5 ∨ i = 6 ∨ i = 7 := by omega
    · obtain rfl := Option.some.inj ho
      have hL7 : L 7 = false := by
        cases e : L 7
        · rfl
        · exact absurd ((f7 e).1 0 (by decide)) (by rw [hL]; decide)
      have J := I0 hL7
      refine wpOp_step rfl (fun K' hK => ?_)
      go_simp
      refine hK _ _ ?_
      exact ⟨_, _, _, _, _, _, _, rfl, (fun _ => J), (fun _ => rfl), (kp f1), (fun h => by
        obtain ⟨g2, e2, r2⟩ := f2 (upd_ne h (by decide))
        exact ⟨g2, e2, fun h5 => r2 (by rw [upd_other (by decide)] at h5; exact h5)⟩), (kp f3), (kp f4), (fun h => by
        obtain ⟨A8, c8, e8, r8⟩ := f5 (upd_ne h (by decide))
        exact ⟨A8, c8, e8, fun h7 => r8 (by rw [upd_other (by decide)] at h7; exact h7)⟩), (fun h => ⟨(f6 (upd_ne h (by decide))).1, upd_mono (f6 (upd_ne h (by decide))).2⟩), (fun h => absurd hL7 (by rw [upd_ne h (by decide)]; decide))⟩
    · obtain rfl := Option.some.inj ho
      have g0 := f0 (hd ⟨0, .data⟩ (by simp) rfl)
      subst g0
      have hL7 : L 7 = false := by
        cases e : L 7
        · rfl
        · exact absurd ((f7 e).1 1 (by decide)) (by rw [hL]; decide)
      have J := I0 hL7
      have z3 : ww.cell? ⟨q, 3, none⟩ = some (.int .i64 oc) := (J.cell (p := ⟨q, 3, none⟩) hql).trans y3
      refine wpOp_step rfl (fun K' hK => ?_)
      go_simp
      refine hK _ _ ?_
      exact ⟨_, _, _, _, _, _, _, rfl, (fun _ => J), (kp f0), (fun _ => rfl), (fun h => by
        obtain ⟨g2, e2, r2⟩ := f2 (upd_ne h (by decide))
        exact ⟨g2, e2, fun h5 => r2 (by rw [upd_other (by decide)] at h5; exact h5)⟩), (kp f3), (kp f4), (fun h => by
        obtain ⟨A8, c8, e8, r8⟩ := f5 (upd_ne h (by decide))
        exact ⟨A8, c8, e8, fun h7 => r8 (by rw [upd_other (by decide)] at h7; exact h7)⟩), (fun h => ⟨(f6 (upd_ne h (by decide))).1, upd_mono (f6 (upd_ne h (by decide))).2⟩), (fun h => absurd hL7 (by rw [upd_ne h (by decide)]; decide))⟩
    · obtain rfl := Option.some.inj ho
      have hL7 : L 7 = false := by
        cases e : L 7
        · rfl
        · exact absurd ((f7 e).1 2 (by decide)) (by rw [hL]; decide)
      have J := I0 hL7
      have b5 : Below ww.heap.size ww (ww.alloc (.cells #[.int .i64 (-1)] 3)) := (Below.refl _ _).alloc (Nat.le_refl _) _
      have c7 := (Rw.new ww 3 #[.int .i64 (-1)]).cell 0
      refine wpOp_step rfl (fun K' hK => ?_)
      go_simp
      refine hK _ _ ?_
      exact ⟨_, _, _, _, _, _, _, rfl, (fun _ => J.alloc J.size _), (kp f0), (kp f1), (fun _ => ⟨_, rfl, fun _ => ⟨by simp, c7⟩⟩), (kp f3), (kp f4), (fun h => by
        obtain ⟨A8, c8, e8, r8⟩ := f5 (upd_ne h (by decide))
        exact ⟨A8, c8, e8, fun h7 => (r8 hL7).below b5 (Nat.le_refl _)⟩), (fun h => ⟨(f6 (upd_ne h (by decide))).1, upd_mono (f6 (upd_ne h (by decide))).2⟩), (fun h => absurd hL7 (by rw [upd_ne h (by decide)]; decide))⟩
    · obtain rfl := Option.some.inj ho
      have hL7 : L 7 = false := by
        cases e : L 7
        · rfl
        · exact absurd ((f7 e).1 3 (by decide)) (by rw [hL]; decide)
      have J := I0 hL7
      refine wpOp_step rfl (fun K' hK => ?_)
      go_simp
      refine hK _ _ ?_
      exact ⟨_, _, _, _, _, _, _, rfl, (fun _ => J), (kp f0), (kp f1), (fun h => by
        obtain ⟨g2, e2, r2⟩ := f2 (upd_ne h (by decide))
        exact ⟨g2, e2, fun h5 => r2 (by rw [upd_other (by decide)] at h5; exact h5)⟩), (fun _ => rfl), (kp f4), (fun h => by
        obtain ⟨A8, c8, e8, r8⟩ := f5 (upd_ne h (by decide))
        exact ⟨A8, c8, e8, fun h7 => r8 (by rw [upd_other (by decide)] at h7; exact h7)⟩), (fun h => ⟨(f6 (upd_ne h (by decide))).1, upd_mono (f6 (upd_ne h (by decide))).2⟩), (fun h => absurd hL7 (by rw [upd_ne h (by decide)]; decide))⟩
    · obtain rfl := Option.some.inj ho
      have g3 := f3 (hd ⟨3, .data⟩ (by simp) rfl)
      subst g3
      have hL7 : L 7 = false := by
        cases e : L 7
        · rfl
        · exact absurd ((f7 e).1 4 (by decide)) (by rw [hL]; decide)
      have J := I0 hL7
      have z2 : ww.cell? ⟨q, 2, none⟩ = some (.int .i64 ob) := (J.cell (p := ⟨q, 2, none⟩) hql).trans y2
      refine wpOp_step rfl (fun K' hK => ?_)
      go_simp
      refine hK _ _ ?_
      exact ⟨_, _, _, _, _, _, _, rfl, (fun _ => J), (kp f0), (kp f1), (fun h => by
        obtain ⟨g2, e2, r2⟩ := f2 (upd_ne h (by decide))
        exact ⟨g2, e2, fun h5 => r2 (by rw [upd_other (by decide)] at h5; exact h5)⟩), (kp f3), (fun _ => rfl), (fun h => by
        obtain ⟨A8, c8, e8, r8⟩ := f5 (upd_ne h (by decide))
        exact ⟨A8, c8, e8, fun h7 => r8 (by rw [upd_other (by decide)] at h7; exact h7)⟩), (fun h => ⟨(f6 (upd_ne h (by decide))).1, upd_mono (f6 (upd_ne h (by decide))).2⟩), (fun h => absurd hL7 (by rw [upd_ne h (by decide)]; decide))⟩
    · obtain rfl := Option.some.inj ho
      have g2 := f2 (hd ⟨2, .data⟩ (by simp) rfl)
      have g4 := f4 (hd ⟨4, .data⟩ (by simp) rfl)
      subst g4
      have hL7 : L 7 = false := by
        cases e : L 7
        · rfl
        · exact absurd ((f7 e).1 5 (by decide)) (by rw [hL]; decide)
      have J := I0 hL7
      obtain ⟨g2, e2, r2⟩ := g2
      obtain ⟨hg2, hc2⟩ := r2 hL
      subst e2
      refine wpOp_step rfl (fun K' hK => ?_)
      go_simp
      refine (repeat_ones ob hb3 g2 ww hg2 hc2).mono ?_
      rintro e w' ⟨v1, rfl, o1, b5⟩
      obtain ⟨A8, c8, e8, -⟩ := o1.form
      rw [List.length_replicate] at e8
      refine hK _ _ ?_
      exact ⟨_, _, _, _, _, _, _, rfl, (fun _ => J.trans (b5.mono J.size)), (kp f0), (kp f1), (fun _ => ⟨g2, rfl, fun h => absurd h (by rw [upd_self]; decide)⟩), (kp f3), (kp f4), (fun _ => ⟨A8, c8, e8, fun _ => o1.base J.size⟩), (fun h => absurd (f6 (upd_ne h (by decide))).2 (by rw [hL]; decide)), (fun h => absurd hL7 (by rw [upd_ne h (by decide)]; decide))⟩
    · obtain rfl := Option.some.inj ho
      have g1 := f1 (hd ⟨1, .data⟩ (by simp) rfl)
      have g5 := f5 (hd ⟨5, .data⟩ (by simp) rfl)
      subst g1
      have hL7 : L 7 = false := by
        cases e : L 7
        · rfl
        · exact absurd ((f7 e).1 6 (by decide)) (by rw [hL]; decide)
      have J := I0 hL7
      have l5 := Lib.hid (hd ⟨5, .data⟩ (by simp) rfl)
      obtain ⟨A8, c8, e8, r8⟩ := g5
      subst e8
      refine wpOp_step rfl (fun K' hK => ?_)
      go_simp
      refine hK _ _ ?_
      exact ⟨_, _, _, _, _, _, _, rfl, (fun _ => J), (kp f0), (kp f1), (fun h => by
        obtain ⟨g2, e2, r2⟩ := f2 (upd_ne h (by decide))
        exact ⟨g2, e2, fun h5 => r2 (by rw [upd_other (by decide)] at h5; exact h5)⟩), (kp f3), (kp f4), (fun _ => ⟨A8, c8, rfl, fun h7 => r8 (by rw [upd_other (by decide)] at h7; exact h7)⟩), (fun _ => ⟨rfl, upd_mono l5.out⟩), (fun h => absurd hL7 (by rw [upd_ne h (by decide)]; decide))⟩
    · obtain rfl := Option.some.inj ho
      have g6 := f6 (hd ⟨6, .data⟩ (by simp) rfl)
      have lq : Hid (∀ q, q < 7 → L q = true) := Lib.hid (by
        intro q hq
        obtain rfl | rfl | rfl | rfl | rfl | rfl | rfl : q = 0 ∨ q = 1 ∨ q = 2 ∨ q = 3 ∨ q = 4 ∨ q = 5 ∨ q = 6 := by omega
        · exact hd ⟨0, .phase⟩ (by simp) rfl
        · exact hd ⟨1, .phase⟩ (by simp) rfl
        · exact hd ⟨2, .phase⟩ (by simp) rfl
        · exact hd ⟨3, .phase⟩ (by simp) rfl
        · exact hd ⟨4, .phase⟩ (by simp) rfl
        · exact hd ⟨5, .phase⟩ (by simp) rfl
        · exact hd ⟨6, .phase⟩ (by simp) rfl)
      have J := I0 hL
      obtain ⟨e9, -⟩ := g6
      subst e9
      obtain ⟨A8, c8, e8, r8⟩ := f5 (lq.out 5 (by decide))
      subst e8
      have o8 := r8 hL
      have P := Q2.keep J hrl
      have zf0 : ww.frozen? ⟨q + 1, 0, none⟩ = false := P.frozen 0
      have zf1 : ww.frozen? ⟨q + 1, 1, none⟩ = false := P.frozen 1
      have zf2 : ww.frozen? ⟨q + 1, 2, none⟩ = false := P.frozen 2
      have zc0 : ww.cell? ⟨q + 1, 0, none⟩ = some (.bool false) := P.cell 0
      have zc1 : ww.cell? ⟨q + 1, 1, none⟩ = some (.int .i64 0) := P.cell 1
      have zc2 : ww.cell? ⟨q + 1, 2, none⟩ = some (.slice none 0 0) := P.cell 2
      refine wpOp_step rfl (fun K' hK => ?_)
      go_simp
      refine hK _ _ ?_
      exact ⟨_, _, _, _, _, _, _, rfl, (fun h => absurd h (by rw [upd_self]; decide)), (kp f0), (kp f1), (fun h => by
        obtain ⟨g2, e2, r2⟩ := f2 (upd_ne h (by decide))
        exact ⟨g2, e2, fun h5 => absurd (lq.out 5 (by decide)) (by rw [upd_other (by decide)] at h5; rw [h5]; decide)⟩), (kp f3), (kp f4), (fun _ => ⟨A8, c8, rfl, fun h => absurd h (by rw [upd_self]; decide)⟩), (fun _ => ⟨rfl, upd_mono (lq.out 5 (by decide))⟩), (fun _ => ⟨fun q hq => upd_mono (lq.out q hq), ww, rfl, J, o8⟩)⟩
  case hdone =>
    rintro L ac ww hall ⟨t3, t4, t5, t6, t7, t8, t9, rfl, I0, f0, f1, f2, f3, f4, f5, f6, f7⟩
    have e0 := f0 (hall 0 (by decide))
    have e1 := f1 (hall 1 (by decide))
    have e2 := f2 (hall 2 (by decide))
    have e3 := f3 (hall 3 (by decide))
    have e4 := f4 (hall 4 (by decide))
    have e5 := f5 (hall 5 (by decide))
    have e6 := f6 (hall 6 (by decide))
    have e7 := f7 (hall 7 (by decide))
    clear f0 f1 f2 f3 f4 f5 f6 f7
    obtain ⟨-, wp, rfl, r1, r2⟩ := e7
    obtain ⟨A8, c8, rfl, -⟩ := e5
    have P := Q2.keep r1 hrl
    have P4 := ((P.put 0 (.bool true)).put 1 (.int .i64 oc)).put 2 (.slice A8 ob c8)
    have s8 : (((wp.setCell ⟨q + 1, 0, none⟩ (.bool true)).setCell ⟨q + 1, 1, none⟩ (.int .i64 oc)).setCell ⟨q + 1, 2, none⟩ (.slice A8 ob c8)).cell? ⟨q + 1, 0, none⟩ = some (.bool true) := P4.cell 0
    have s9 : (((wp.setCell ⟨q + 1, 0, none⟩ (.bool true)).setCell ⟨q + 1, 1, none⟩ (.int .i64 oc)).setCell ⟨q + 1, 2, none⟩ (.slice A8 ob c8)).cell? ⟨q + 1, 1, none⟩ = some (.int .i64 oc) := P4.cell 1
    have s10 : (((wp.setCell ⟨q + 1, 0, none⟩ (.bool true)).setCell ⟨q + 1, 1, none⟩ (.int .i64 oc)).setCell ⟨q + 1, 2, none⟩ (.slice A8 ob c8)).cell? ⟨q + 1, 2, none⟩ = some (.slice A8 ob c8) := P4.cell 2
    have BF : Below q w (((wp.setCell ⟨q + 1, 0, none⟩ (.bool true)).setCell ⟨q + 1, 1, none⟩ (.int .i64 oc)).setCell ⟨q + 1, 2, none⟩ (.slice A8 ob c8)) := (((B2.trans (r1.mono (by omega))).setCell (p := ⟨q + 1, 0, none⟩) (by show q ≤ q + 1; omega) _).setCell (p := ⟨q + 1, 1, none⟩) (by show q ≤ q + 1; omega) _).setCell (p := ⟨q + 1, 2, none⟩) (by show q ≤ q + 1; omega) _
    have ne8 : (Value.slice A8 ob c8).ownBlock = none ∨ (Value.slice A8 ob c8).ownBlock ≠ some (q + 1) := by
      cases e : (Value.slice A8 ob c8).ownBlock with
      | none => exact .inl rfl
      | some k =>
        right
        intro e'
        have := (World.ownsRow.lt r2 k e).1
        have := Option.some.inj e'
        omega
    have OF := ((r2.far (put_any wp (q + 1) 0 (.bool true)) ne8).far (put_any _ (q + 1) 1 (.int .i64 oc)) ne8).far (put_any _ (q + 1) 2 (.slice A8 ob c8)) ne8
    clear I0 e0 e1 e2 e3 e4 e6 hall r1 r2 P P4 ne8
    go_wp2_with fail
    exact bodyPost_ret (v := .agg #[.bool true, .int .i64 oc, .slice A8 ob c8]) (by simp [results, Tryd.results106, go_sem, *]) rfl ⟨_, rfl, OF.base (by have := HQ.out; omega), HQ.out ▸ BF⟩
set_option maxHeartbeats 4000000 in
theorem exec_new {a ob : Nat} {oc : Int} {h : Hp} (hv : Hps.validH h = true) (ha : a < 4) (hb3 : ob ≤ 3) : ExecF 127 ⟨1, a, ob, oc⟩ h := by
  intro w0 w1 b vc vr rvs S0
  have hr4 := (Hps.valid_iff.1 hv).2.2.1
  have h40 := (Hps.valid_iff.1 hv).2.1
  have ham : (a : Int) < 4 := by omega
  obtain ⟨n, hn⟩ : ∃ n, h.cs.length = n := ⟨_, rfl⟩
  have HF := Lib.hid (show Hps.doH h ⟨1, a, ob, oc⟩ h.cs.length = ⟨h.cs ++ [⟨true, oc, List.replicate ob (-1)⟩], h.rt.set a (h.cs.length : Int)⟩ by simp [Hps.doH, Hps.putCl, Hps.newCl])
  have HL := Lib.hid hr4
  have HN := Lib.hid hn
  obtain ⟨A, c, gr, d, rfl, rfl, -⟩ := S0.form (by omega)
  rw [hr4, hn] at S0
  rw [hn] at h40
  have S := S0.up ((Below.refl w1.heap.size w1).alloc (Nat.le_refl _) (.cells #[.int .i64 1, .int .i64 a, .int .i64 ob, .int .i64 oc] 36))
  have Q := Rw.new w1 36 #[.int .i64 1, .int .i64 a, .int .i64 ob, .int .i64 oc]
  have QW : w0.heap.size ≤ w1.heap.size := S0.low.size
  have QB := S0.box.lt
  have QR : gr < w1.heap.size := (S0.own.blocks (v := .slice (some ⟨gr, 0, none⟩) 4 d) (by simp) rfl).2
  clear S0 hr4 hv hn
  go_enter Tryd.func127, Tryd.ntmps127
  go_upto_region 1 with fail
  generalize w1.alloc (.cells #[.int .i64 1, .int .i64 a, .int .i64 ob, .int .i64 oc] 36) = w2 at S Q ⊢
  generalize w1.heap.size = q at Q QW QB QR ⊢
  have y1 : w2.cell? ⟨q, 1, none⟩ = some (.int .i64 a) := Q.cell 1
  have x0 : w2.cell? ⟨b, 0, none⟩ = some (.slice A n c) := S.box.cell 0
  have x1 : w2.cell? ⟨b, 1, none⟩ = some (.slice (some ⟨gr, 0, none⟩) 4 d) := S.box.cell 1
  have SS := Lib.hid S
  have QQ := Lib.hid Q
  clear S Q
  go_still_tail 12, (by kernel_rfl)
  change wpList _ _ _ _ _ w2.drew
  have S4 := SS.out.drew
  have Q4 := QQ.out.keep (Below.refl _ w2).drew QQ.out.lt
  generalize w2.drew = w4 at S4 Q4 ⊢
  obtain ⟨xo, hxo, cr⟩ := S4.own.roots.cell_at (j := a) (by omega)
  have fz : w4.frozen? ⟨gr, a, none⟩ = false := S4.own.roots.frozen HL.out a
  have S5 := S4.root (i := a) HL.out (n : Int)
  have Q5 := Q4.other (g' := gr) (i := a) (by omega) (.int .i64 (n : Int))
  clear S4 Q4 SS QQ y1 x0 x1
  go_upto_region 2 with fail
  generalize w4.setCell ⟨gr, a, none⟩ (.int .i64 (n : Int)) = w5 at S5 Q5 ⊢
  have hbl := S5.box.lt
  have hql := Q5.lt
  have x0 : w5.cell? ⟨b, 0, none⟩ = some (.slice A n c) := S5.box.cell 0
  have y0 : w5.cell? ⟨q, 0, none⟩ = some (.int .i64 1) := Q5.cell 0
  have y1 : w5.cell? ⟨q, 1, none⟩ = some (.int .i64 a) := Q5.cell 1
  have y2 : w5.cell? ⟨q, 2, none⟩ = some (.int .i64 ob) := Q5.cell 2
  have y3 : w5.cell? ⟨q, 3, none⟩ = some (.int .i64 oc) := Q5.cell 3
  have SS := Lib.hid S5
  have QQ := Lib.hid Q5
  clear S5 Q5
  refine wp_region_inv (by kernel_rfl) (by kernel_rfl) (fun L ac ww => ∃ t16 t17 t18 t19 t20 t21 t22 t23 t24 t25 t26 : Value, ac = { tmps := #[cmV { op := 1, a := ↑a, b := ↑ob, c := oc }, Value.pointer (some { block := b, off := 0 }), Value.pointer (some { block := q, off := 0 }), undef, Value.pointer (some { block := b, off := 0 }), Value.pointer (some { block := b, off := 0 }), Value.pointer (some { block := b, off := 1 }), Value.slice (some { block := gr, off := 0 }) 4 d, Value.pointer (some { block := q, off := 1 }), Value.int IntKind.i64 ↑a, Value.pointer (some { block := b, off := 0 }), Value.pointer (some { block := b, off := 0 }), Value.pointer (some { block := b, off := 0 }), Value.slice A n c, Value.int IntKind.i64 ↑n, Value.pointer (some { block := gr, off := a }), t16, t17, t18, t19, t20, t21, t22, t23, t24, t25, t26], defers := [] } ∧ (L 8 = false → Below w5.heap.size w5 ww) ∧ (Closed [(2, 1), (3, 2), (4, 3), (6, 5), (7, 6), (8, 4), (8, 6), (8, 7), (9, 0), (9, 1), (9, 2), (9, 3), (9, 4), (9, 5), (9, 6), (9, 7), (9, 8), (10, 9), (11, 10)] L) ∧ (L 0 = true → t16 = .pointer (some ⟨b, 0, none⟩)) ∧ (L 1 = true → t17 = .pointer (some ⟨b, 0, none⟩)) ∧ (L 2 = true → t18 = .pointer (some ⟨b, 0, none⟩)) ∧ (L 3 = true → t19 = .pointer (some ⟨b, 0, none⟩)) ∧ (L 4 = true → t20 = .slice A n c) ∧ (L 5 = true → t21 = cmV ⟨1, a, ob, oc⟩) ∧ (L 6 = true → ∃ v8, t22 = .agg #[.bool true, .int .i64 oc, v8] ∧ (∃ A8 c8, v8 = .slice A8 ob c8) ∧ (L 8 = false → OwnI ww w5.heap.size v8 (List.replicate ob (-1)))) ∧ (L 7 = true → (∃ g12 v8, t22 = .agg #[.bool true, .int .i64 oc, v8] ∧ t23 = .slice (some ⟨g12, 0, none⟩) 1 1 ∧ (L 8 = false → Rw ww g12 43 #[.bool true, .int .i64 oc, v8])) ∧ L 6 = true) ∧ (L 8 = true → (L 6 = true ∧ L 4 = true) ∧ ∃ A9 c9 v8, t22 = .agg #[.bool true, .int .i64 oc, v8] ∧ t24 = .slice A9 (n + 1) c9 ∧ ∃ wp w9, ww = (if L 11 = true then w9.setCell ⟨b, 0, none⟩ t24 else w9) ∧ Below w5.heap.size w5 wp ∧ OwnI wp w5.heap.size v8 (List.replicate ob (-1)) ∧ wp.grownBy w9 (Value.slice A n c).ownBlock ∧ w9.ownsRow w0.heap.size 43 3 t24 (n + 1) (flatC h.cs rvs ++ [.bool true, .int .i64 oc, v8]) ∧ (t24.ownBlock = (Value.slice A n c).ownBlock ∨ t24.ownBlock = some wp.heap.size)) ∧ (L 9 = true → t25 = .pointer (some ⟨b, 0, none⟩)) ∧ (L 10 = true → t26 = .pointer (some ⟨b, 0, none⟩)) ∧ (L 11 = true → ∀ q, q < 11 → L q = true)) ?h0 ?hstep ?hdone
  case h0 => exact ⟨_, _, _, _, _, _, _, _, _, _, _, rfl, fun _ => (Below.refl _ _).drew, fun _ _ h => absurd h Bool.false_ne_true, (fun h => absurd h Bool.false_ne_true), (fun h => absurd h Bool.false_ne_true), (fun h => absurd h Bool.false_ne_true), (fun h => absurd h Bool.false_ne_true), (fun h => absurd h Bool.false_ne_true), (fun h => absurd h Bool.false_ne_true), (fun h => absurd h Bool.false_ne_true), (fun h => absurd h Bool.false_ne_true), (fun h => absurd h Bool.false_ne_true), (fun h => absurd h Bool.false_ne_true), (fun h => absurd h Bool.false_ne_true), (fun h => absurd h Bool.false_ne_true)⟩
  case hstep =>
    rintro L ac ww i o ho hL hd ⟨t16, t17, t18, t19, t20, t21, t22, t23, t24, t25, t26, rfl, I0, I1, f0, f1, f2, f3, f4, f5, f6, f7, f8, f9, f10, f11⟩
    have hi : i < 12 := (Array.getElem?_eq_some_iff.1 ho).1
    obtain rfl | rfl | rfl | rfl | rfl | rfl | rfl | rfl | rfl | rfl | rfl | rfl : i = 0 ∨ i = 1 ∨ i = 2 ∨ i = 3 ∨ i = 4 ∨ i = 5 ∨ i = 6 ∨ i = 7 ∨ i = 8 ∨ i = 9 ∨ i = 10 ∨ i = 11 := by omega
    · obtain rfl := Option.some.inj ho
      refine wpOp_step rfl (fun K' hK => ?_)
      go_simp
      refine hK _ _ ?_
      exact ⟨_, _, _, _, _, _, _, _, _, _, _, rfl, (fun h => I0 (by rw [upd_other (by decide)] at h; exact h)), (Closed.step I1 (by
        intro p hp e
        simp only [List.mem_cons, List.not_mem_nil, or_false] at hp
        rcases hp with rfl | rfl | rfl | rfl | rfl | rfl | rfl | rfl | rfl | rfl | rfl | rfl | rfl | rfl | rfl | rfl | rfl | rfl | rfl
        · exact absurd e (by decide)
        · exact absurd e (by decide)
        · exact absurd e (by decide)
        · exact absurd e (by decide)
        · exact absurd e (by decide)
        · exact absurd e (by decide)
        · exact absurd e (by decide)
        · exact absurd e (by decide)
        · exact absurd e (by decide)
        · exact absurd e (by decide)
        · exact absurd e (by decide)
        · exact absurd e (by decide)
        · exact absurd e (by decide)
        · exact absurd e (by decide)
        · exact absurd e (by decide)
        · exact absurd e (by decide)
        · exact absurd e (by decide)
        · exact absurd e (by decide)
        · exact absurd e (by decide))), (fun _ => rfl), (kp f1), (kp f2), (kp f3), (kp f4), (kp f5), (fun h => by
        obtain ⟨v8, e22, x8, r8⟩ := f6 (upd_ne h (by decide))
        exact ⟨v8, e22, x8, fun h8 => r8 (by rw [upd_other (by decide)] at h8; exact h8)⟩), (fun h => by
        obtain ⟨⟨g12, v8, e22, e12, r12⟩, l6⟩ := f7 (upd_ne h (by decide))
        exact ⟨⟨g12, v8, e22, e12, fun h8 => r12 (by rw [upd_other (by decide)] at h8; exact h8)⟩, upd_mono l6⟩), (fun h => by
        obtain ⟨⟨l6, l4⟩, A9, c9, v8, e22, e9, wp, w9, e10, r⟩ := f8 (upd_ne h (by decide))
        exact ⟨⟨upd_mono l6, upd_mono l4⟩, A9, c9, v8, e22, e9, wp, w9, by rw [upd_other (by decide)]; exact e10, r⟩), (kp f9), (kp f10), (fun h => absurd (f11 (upd_ne h (by decide)) 0 (by decide)) (by rw [hL]; decide))⟩
    · obtain rfl := Option.some.inj ho
      have hL8 : L 8 = false := by
        cases e : L 8
        · rfl
        · exact absurd (I1.get (i := 2) (j := 1) (by decide) (I1.get (i := 3) (j := 2) (by decide) (I1.get (i := 4) (j := 3) (by decide) (I1.get (i := 8) (j := 4) (by decide) e)))) (by rw [hL]; decide)
      have J := I0 hL8
      refine wpOp_step rfl (fun K' hK => ?_)
      go_simp
      refine hK _ _ ?_
      exact ⟨_, _, _, _, _, _, _, _, _, _, _, rfl, (fun _ => J), (Closed.step I1 (by
        intro p hp e
        simp only [List.mem_cons, List.not_mem_nil, or_false] at hp
        rcases hp with rfl | rfl | rfl | rfl | rfl | rfl | rfl | rfl | rfl | rfl | rfl | rfl | rfl | rfl | rfl | rfl | rfl | rfl | rfl
        · exact absurd e (by decide)
        · exact absurd e (by decide)
        · exact absurd e (by decide)
        · exact absurd e (by decide)
        · exact absurd e (by decide)
        · exact absurd e (by decide)
        · exact absurd e (by decide)
        · exact absurd e (by decide)
        · exact absurd e (by decide)
        · exact absurd e (by decide)
        · exact absurd e (by decide)
        · exact absurd e (by decide)
        · exact absurd e (by decide)
        · exact absurd e (by decide)
        · exact absurd e (by decide)
        · exact absurd e (by decide)
        · exact absurd e (by decide)
        · exact absurd e (by decide)
        · exact absurd e (by decide))), (kp f0), (fun _ => rfl), (kp f2), (kp f3), (kp f4), (kp f5), (fun h => by
        obtain ⟨v8, e22, x8, r8⟩ := f6 (upd_ne h (by decide))
        exact ⟨v8, e22, x8, fun h8 => r8 (by rw [upd_other (by decide)] at h8; exact h8)⟩), (fun h => by
        obtain ⟨⟨g12, v8, e22, e12, r12⟩, l6⟩ := f7 (upd_ne h (by decide))
        exact ⟨⟨g12, v8, e22, e12, fun h8 => r12 (by rw [upd_other (by decide)] at h8; exact h8)⟩, upd_mono l6⟩), (fun h => absurd hL8 (by rw [upd_ne h (by decide)]; decide)), (kp f9), (kp f10), (fun h => absurd (f11 (upd_ne h (by decide)) 1 (by decide)) (by rw [hL]; decide))⟩
    · obtain rfl := Option.some.inj ho
      have g1 := f1 (hd ⟨1, .data⟩ (by simp) rfl)
      subst g1
      have hL8 : L 8 = false := by
        cases e : L 8
        · rfl
        · exact absurd (I1.get (i := 3) (j := 2) (by decide) (I1.get (i := 4) (j := 3) (by decide) (I1.get (i := 8) (j := 4) (by decide) e))) (by rw [hL]; decide)
      have J := I0 hL8
      refine wpOp_step rfl (fun K' hK => ?_)
      go_simp
      refine hK _ _ ?_
      exact ⟨_, _, _, _, _, _, _, _, _, _, _, rfl, (fun _ => J), (Closed.step I1 (by
        intro p hp e
        simp only [List.mem_cons, List.not_mem_nil, or_false] at hp
        rcases hp with rfl | rfl | rfl | rfl | rfl | rfl | rfl | rfl | rfl | rfl | rfl | rfl | rfl | rfl | rfl | rfl | rfl | rfl | rfl
        · exact hd ⟨1, .data⟩ (by simp) rfl
        · exact absurd e (by decide)
        · exact absurd e (by decide)
        · exact absurd e (by decide)
        · exact absurd e (by decide)
        · exact absurd e (by decide)
        · exact absurd e (by decide)
        · exact absurd e (by decide)
        · exact absurd e (by decide)
        · exact absurd e (by decide)
        · exact absurd e (by decide)
        · exact absurd e (by decide)
        · exact absurd e (by decide)
        · exact absurd e (by decide)
        · exact absurd e (by decide)
        · exact absurd e (by decide)
        · exact absurd e (by decide)
        · exact absurd e (by decide)
        · exact absurd e (by decide))), (kp f0), (kp f1), (fun _ => rfl), (kp f3), (kp f4), (kp f5), (fun h => by
        obtain ⟨v8, e22, x8, r8⟩ := f6 (upd_ne h (by decide))
        exact ⟨v8, e22, x8, fun h8 => r8 (by rw [upd_other (by decide)] at h8; exact h8)⟩), (fun h => by
        obtain ⟨⟨g12, v8, e22, e12, r12⟩, l6⟩ := f7 (upd_ne h (by decide))
        exact ⟨⟨g12, v8, e22, e12, fun h8 => r12 (by rw [upd_other (by decide)] at h8; exact h8)⟩, upd_mono l6⟩), (fun h => absurd hL8 (by rw [upd_ne h (by decide)]; decide)), (kp f9), (kp f10), (fun h => absurd (f11 (upd_ne h (by decide)) 2 (by decide)) (by rw [hL]; decide))⟩
    · obtain rfl := Option.some.inj ho
      have g2 := f2 (hd ⟨2, .data⟩ (by simp) rfl)
      subst g2
      have hL8 : L 8 = false := by
        cases e : L 8
        · rfl
        · exact absurd (I1.get (i := 4) (j := 3) (by decide) (I1.get (i := 8) (j := 4) (by decide) e)) (by rw [hL]; decide)
      have J := I0 hL8
      refine wpOp_step rfl (fun K' hK => ?_)
      go_simp
      refine hK _ _ ?_
      exact ⟨_, _, _, _, _, _, _, _, _, _, _, rfl, (fun _ => J), (Closed.step I1 (by
        intro p hp e
        simp only [List.mem_cons, List.not_mem_nil, or_false] at hp
        rcases hp with rfl | rfl | rfl | rfl | rfl | rfl | rfl | rfl | rfl | rfl | rfl | rfl | rfl | rfl | rfl | rfl | rfl | rfl | rfl
        · exact absurd e (by decide)
        · exact hd ⟨2, .data⟩ (by simp) rfl
        · exact absurd e (by decide)
        · exact absurd e (by decide)
        · exact absurd e (by decide)
        · exact absurd e (by decide)
        · exact absurd e (by decide)
        · exact absurd e (by decide)
        · exact absurd e (by decide)
        · exact absurd e (by decide)
        · exact absurd e (by decide)
        · exact absurd e (by decide)
        · exact absurd e (by decide)
        · exact absurd e (by decide)
        · exact absurd e (by decide)
        · exact absurd e (by decide)
        · exact absurd e (by decide)
        · exact absurd e (by decide)
        · exact absurd e (by decide))), (kp f0), (kp f1), (kp f2), (fun _ => rfl), (kp f4), (kp f5), (fun h => by
        obtain ⟨v8, e22, x8, r8⟩ := f6 (upd_ne h (by decide))
        exact ⟨v8, e22, x8, fun h8 => r8 (by rw [upd_other (by decide)] at h8; exact h8)⟩), (fun h => by
        obtain ⟨⟨g12, v8, e22, e12, r12⟩, l6⟩ := f7 (upd_ne h (by decide))
        exact ⟨⟨g12, v8, e22, e12, fun h8 => r12 (by rw [upd_other (by decide)] at h8; exact h8)⟩, upd_mono l6⟩), (fun h => absurd hL8 (by rw [upd_ne h (by decide)]; decide)), (kp f9), (kp f10), (fun h => absurd (f11 (upd_ne h (by decide)) 3 (by decide)) (by rw [hL]; decide))⟩
    · obtain rfl := Option.some.inj ho
      have g3 := f3 (hd ⟨3, .data⟩ (by simp) rfl)
      subst g3
      have hL8 : L 8 = false := by
        cases e : L 8
        · rfl
        · exact absurd (I1.get (i := 8) (j := 4) (by decide) e) (by rw [hL]; decide)
      have J := I0 hL8
      have z0 : ww.cell? ⟨b, 0, none⟩ = some (.slice A n c) := (J.cell (p := ⟨b, 0, none⟩) hbl).trans x0
      refine wpOp_step rfl (fun K' hK => ?_)
      go_simp
      refine hK _ _ ?_
      exact ⟨_, _, _, _, _, _, _, _, _, _, _, rfl, (fun _ => J), (Closed.step I1 (by
        intro p hp e
        simp only [List.mem_cons, List.not_mem_nil, or_false] at hp
        rcases hp with rfl | rfl | rfl | rfl | rfl | rfl | rfl | rfl | rfl | rfl | rfl | rfl | rfl | rfl | rfl | rfl | rfl | rfl | rfl
        · exact absurd e (by decide)
        · exact absurd e (by decide)
        · exact hd ⟨3, .data⟩ (by simp) rfl
        · exact absurd e (by decide)
        · exact absurd e (by decide)
        · exact absurd e (by decide)
        · exact absurd e (by decide)
        · exact absurd e (by decide)
        · exact absurd e (by decide)
        · exact absurd e (by decide)
        · exact absurd e (by decide)
        · exact absurd e (by decide)
        · exact absurd e (by decide)
        · exact absurd e (by decide)
        · exact absurd e (by decide)
        · exact absurd e (by decide)
        · exact absurd e (by decide)
        · exact absurd e (by decide)
        · exact absurd e (by decide))), (kp f0), (kp f1), (kp f2), (kp f3), (fun _ => rfl), (kp f5), (fun h => by
        obtain ⟨v8, e22, x8, r8⟩ := f6 (upd_ne h (by decide))
        exact ⟨v8, e22, x8, fun h8 => r8 (by rw [upd_other (by decide)] at h8; exact h8)⟩), (fun h => by
        obtain ⟨⟨g12, v8, e22, e12, r12⟩, l6⟩ := f7 (upd_ne h (by decide))
        exact ⟨⟨g12, v8, e22, e12, fun h8 => r12 (by rw [upd_other (by decide)] at h8; exact h8)⟩, upd_mono l6⟩), (fun h => absurd hL8 (by rw [upd_ne h (by decide)]; decide)), (kp f9), (kp f10), (fun h => absurd (f11 (upd_ne h (by decide)) 4 (by decide)) (by rw [hL]; decide))⟩
    · obtain rfl := Option.some.inj ho
      have hL8 : L 8 = false := by
        cases e : L 8
        · rfl
        · exact absurd (I1.get (i := 6) (j := 5) (by decide) (I1.get (i := 8) (j := 6) (by decide) e)) (by rw [hL]; decide)
      have J := I0 hL8
      have z1 : ww.cell? ⟨q, 0, none⟩ = some (.int .i64 1) := (J.cell (p := ⟨q, 0, none⟩) hql).trans y0
      have z2 : ww.cell? ⟨q, 1, none⟩ = some (.int .i64 a) := (J.cell (p := ⟨q, 1, none⟩) hql).trans y1
      have z3 : ww.cell? ⟨q, 2, none⟩ = some (.int .i64 ob) := (J.cell (p := ⟨q, 2, none⟩) hql).trans y2
      have z4 : ww.cell? ⟨q, 3, none⟩ = some (.int .i64 oc) := (J.cell (p := ⟨q, 3, none⟩) hql).trans y3
      refine wpOp_step rfl (fun K' hK => ?_)
      go_simp
      refine hK _ _ ?_
      exact ⟨_, _, _, _, _, _, _, _, _, _, _, rfl, (fun _ => J), (Closed.step I1 (by
        intro p hp e
        simp only [List.mem_cons, List.not_mem_nil, or_false] at hp
        rcases hp with rfl | rfl | rfl | rfl | rfl | rfl | rfl | rfl | rfl | rfl | rfl | rfl | rfl | rfl | rfl | rfl | rfl | rfl | rfl
        · exact absurd e (by decide)
        · exact absurd e (by decide)
        · exact absurd e (by decide)
        · exact absurd e (by decide)
        · exact absurd e (by decide)
        · exact absurd e (by decide)
        · exact absurd e (by decide)
        · exact absurd e (by decide)
        · exact absurd e (by decide)
        · exact absurd e (by decide)
        · exact absurd e (by decide)
        · exact absurd e (by decide)
        · exact absurd e (by decide)
        · exact absurd e (by decide)
        · exact absurd e (by decide)
        · exact absurd e (by decide)
        · exact absurd e (by decide)
        · exact absurd e (by decide)
        · exact absurd e (by decide))), (kp f0), (kp f1), (kp f2), (kp f3), (kp f4), (fun _ => rfl), (fun h => by
        obtain ⟨v8, e22, x8, r8⟩ := f6 (upd_ne h (by decide))
        exact ⟨v8, e22, x8, fun h8 => r8 (by rw [upd_other (by decide)] at h8; exact h8)⟩), (fun h => by
        obtain ⟨⟨g12, v8, e22, e12, r12⟩, l6⟩ := f7 (upd_ne h (by decide))
        exact ⟨⟨g12, v8, e22, e12, fun h8 => r12 (by rw [upd_other (by decide)] at h8; exact h8)⟩, upd_mono l6⟩), (fun h => absurd hL8 (by rw [upd_ne h (by decide)]; decide)), (kp f9), (kp f10), (fun h => absurd (f11 (upd_ne h (by decide)) 5 (by decide)) (by rw [hL]; decide))⟩
    · obtain rfl := Option.some.inj ho
      have g5 := f5 (hd ⟨5, .data⟩ (by simp) rfl)
      subst g5
      have hL8 : L 8 = false := by
        cases e : L 8
        · rfl
        · exact absurd (I1.get (i := 8) (j := 6) (by decide) e) (by rw [hL]; decide)
      have J := I0 hL8
      refine wpOp_step rfl (fun K' hK => ?_)
      go_simp
      refine (madeCell_any hb3 ww).mono ?_
      rintro e w' ⟨v8, rfl, o1, b5⟩
      obtain ⟨A8, c8, e8, -⟩ := o1.form
      rw [List.length_replicate] at e8
      refine hK _ _ ?_
      exact ⟨_, _, _, _, _, _, _, _, _, _, _, rfl, (fun _ => J.trans (b5.mono J.size)), (Closed.step I1 (by
        intro p hp e
        simp only [List.mem_cons, List.not_mem_nil, or_false] at hp
        rcases hp with rfl | rfl | rfl | rfl | rfl | rfl | rfl | rfl | rfl | rfl | rfl | rfl | rfl | rfl | rfl | rfl | rfl | rfl | rfl
        · exact absurd e (by decide)
        · exact absurd e (by decide)
        · exact absurd e (by decide)
        · exact hd ⟨5, .data⟩ (by simp) rfl
        · exact absurd e (by decide)
        · exact absurd e (by decide)
        · exact absurd e (by decide)
        · exact absurd e (by decide)
        · exact absurd e (by decide)
        · exact absurd e (by decide)
        · exact absurd e (by decide)
        · exact absurd e (by decide)
        · exact absurd e (by decide)
        · exact absurd e (by decide)
        · exact absurd e (by decide)
        · exact absurd e (by decide)
        · exact absurd e (by decide)
        · exact absurd e (by decide)
        · exact absurd e (by decide))), (kp f0), (kp f1), (kp f2), (kp f3), (kp f4), (kp f5), (fun _ => ⟨v8, rfl, ⟨A8, c8, e8⟩, fun _ => o1.base J.size⟩), (fun h => absurd (f7 (upd_ne h (by decide))).2 (by rw [hL]; decide)), (fun h => absurd hL8 (by rw [upd_ne h (by decide)]; decide)), (kp f9), (kp f10), (fun h => absurd (f11 (upd_ne h (by decide)) 6 (by decide)) (by rw [hL]; decide))⟩
    · obtain rfl := Option.some.inj ho
      have g6 := f6 (hd ⟨6, .data⟩ (by simp) rfl)
      have hL8 : L 8 = false := by
        cases e : L 8
        · rfl
        · exact absurd (I1.get (i := 8) (j := 7) (by decide) e) (by rw [hL]; decide)
      have J := I0 hL8
      have L6 := Lib.hid (hd ⟨6, .data⟩ (by simp) rfl)
      obtain ⟨v8, e22, ⟨A8, c8, e8⟩, r8⟩ := g6
      subst e22
      subst e8
      have b5 : Below ww.heap.size ww (ww.alloc (.cells #[.bool true, .int .i64 oc, .slice A8 ob c8] 43)) := (Below.refl _ _).alloc (Nat.le_refl _) _
      have q12 := Rw.new ww 43 #[.bool true, .int .i64 oc, .slice A8 ob c8]
      refine wpOp_step rfl (fun K' hK => ?_)
      go_simp
      refine hK _ _ ?_
      exact ⟨_, _, _, _, _, _, _, _, _, _, _, rfl, (fun _ => J.alloc J.size _), (Closed.step I1 (by
        intro p hp e
        simp only [List.mem_cons, List.not_mem_nil, or_false] at hp
        rcases hp with rfl | rfl | rfl | rfl | rfl | rfl | rfl | rfl | rfl | rfl | rfl | rfl | rfl | rfl | rfl | rfl | rfl | rfl | rfl
        · exact absurd e (by decide)
        · exact absurd e (by decide)
        · exact absurd e (by decide)
        · exact absurd e (by decide)
        · exact hd ⟨6, .data⟩ (by simp) rfl
        · exact absurd e (by decide)
        · exact absurd e (by decide)
        · exact absurd e (by decide)
        · exact absurd e (by decide)
        · exact absurd e (by decide)
        · exact absurd e (by decide)
        · exact absurd e (by decide)
        · exact absurd e (by decide)
        · exact absurd e (by decide)
        · exact absurd e (by decide)
        · exact absurd e (by decide)
        · exact absurd e (by decide)
        · exact absurd e (by decide)
        · exact absurd e (by decide))), (kp f0), (kp f1), (kp f2), (kp f3), (kp f4), (kp f5), (fun _ => ⟨_, rfl, ⟨A8, c8, rfl⟩, fun _ => (r8 hL8).below b5 (Nat.le_refl _)⟩), (fun _ => ⟨⟨_, _, rfl, rfl, fun _ => q12⟩, upd_mono L6.out⟩), (fun h => absurd hL8 (by rw [upd_ne h (by decide)]; decide)), (kp f9), (kp f10), (fun h => absurd (f11 (upd_ne h (by decide)) 7 (by decide)) (by rw [hL]; decide))⟩
    · obtain rfl := Option.some.inj ho
      have g4 := f4 (hd ⟨4, .data⟩ (by simp) rfl)
      have g7 := f7 (hd ⟨7, .data⟩ (by simp) rfl)
      subst g4
      have lq : Hid (L 6 = true ∧ L 4 = true) := Lib.hid ⟨hd ⟨6, .chain⟩ (by simp) rfl, hd ⟨4, .data⟩ (by simp) rfl⟩
      have J := I0 hL
      obtain ⟨⟨g12, v8, e22, e12, r12⟩, -⟩ := g7
      subst e12
      have q12 := r12 hL
      subst e22
      obtain ⟨v9, e23, ⟨A8, c8, e8⟩, r8⟩ := f6 lq.out.1
      have e24 : v8 = v9 := by
        injection e23 with e23
        simpa using e23
      subst e24
      subst e8
      have o8 := r8 hL
      have S6 := SS.out.up J
      have own6 : ww.ownsRow w0.heap.size 43 3 (.slice A n c) n (flatC h.cs rvs) := by
        have := S6.own.row
        rwa [HN.out] at this
      have hw0 := S6.low.size
      refine wpOp_step rfl (fun K' hK => ?_)
      refine app_stepC rfl (.tmp 20) (.tmp 23) rfl w0.heap.size _ n (flatC h.cs rvs) rfl own6 g12 true oc A8 ob c8 rfl q12 (by omega) hw0 ?_
      intro v' w' A9 c9 e9 o1 g1 s1
      subst e9
      refine hK _ _ ?_
      exact ⟨_, _, _, _, _, _, _, _, _, _, _, rfl, (fun h => absurd h (by rw [upd_self]; decide)), (Closed.step I1 (by
        intro p hp e
        simp only [List.mem_cons, List.not_mem_nil, or_false] at hp
        rcases hp with rfl | rfl | rfl | rfl | rfl | rfl | rfl | rfl | rfl | rfl | rfl | rfl | rfl | rfl | rfl | rfl | rfl | rfl | rfl
        · exact absurd e (by decide)
        · exact absurd e (by decide)
        · exact absurd e (by decide)
        · exact absurd e (by decide)
        · exact absurd e (by decide)
        · exact hd ⟨4, .data⟩ (by simp) rfl
        · exact hd ⟨6, .chain⟩ (by simp) rfl
        · exact hd ⟨7, .data⟩ (by simp) rfl
        · exact absurd e (by decide)
        · exact absurd e (by decide)
        · exact absurd e (by decide)
        · exact absurd e (by decide)
        · exact absurd e (by decide)
        · exact absurd e (by decide)
        · exact absurd e (by decide)
        · exact absurd e (by decide)
        · exact absurd e (by decide)
        · exact absurd e (by decide)
        · exact absurd e (by decide))), (kp f0), (kp f1), (kp f2), (kp f3), (kp f4), (kp f5), (fun _ => ⟨_, rfl, ⟨A8, c8, rfl⟩, fun h => absurd h (by rw [upd_self]; decide)⟩), (fun _ => ⟨⟨g12, _, rfl, rfl, fun h => absurd h (by rw [upd_self]; decide)⟩, upd_mono lq.out.1⟩), (fun _ => ⟨⟨upd_mono lq.out.1, upd_mono lq.out.2⟩, A9, c9, _, rfl, rfl, ww, w', by
        rw [upd_other (by decide)]
        cases e : L 11
        · rw [if_neg (by decide)]
        · exact absurd (f11 e 8 (by decide)) (by rw [hL]; decide), J, o8, g1, o1, s1⟩), (kp f9), (kp f10), (fun h => absurd (f11 (upd_ne h (by decide)) 8 (by decide)) (by rw [hL]; decide))⟩
    · obtain rfl := Option.some.inj ho
      have g0 := f0 (hd ⟨0, .data⟩ (by simp) rfl)
      subst g0
      refine wpOp_step rfl (fun K' hK => ?_)
      go_simp
      refine hK _ _ ?_
      exact ⟨_, _, _, _, _, _, _, _, _, _, _, rfl, (fun h => I0 (by rw [upd_other (by decide)] at h; exact h)), (Closed.step I1 (by
        intro p hp e
        simp only [List.mem_cons, List.not_mem_nil, or_false] at hp
        rcases hp with rfl | rfl | rfl | rfl | rfl | rfl | rfl | rfl | rfl | rfl | rfl | rfl | rfl | rfl | rfl | rfl | rfl | rfl | rfl
        · exact absurd e (by decide)
        · exact absurd e (by decide)
        · exact absurd e (by decide)
        · exact absurd e (by decide)
        · exact absurd e (by decide)
        · exact absurd e (by decide)
        · exact absurd e (by decide)
        · exact absurd e (by decide)
        · exact hd ⟨0, .phase⟩ (by simp) rfl
        · exact hd ⟨1, .phase⟩ (by simp) rfl
        · exact hd ⟨2, .phase⟩ (by simp) rfl
        · exact hd ⟨3, .phase⟩ (by simp) rfl
        · exact hd ⟨4, .phase⟩ (by simp) rfl
        · exact hd ⟨5, .phase⟩ (by simp) rfl
        · exact hd ⟨6, .phase⟩ (by simp) rfl
        · exact hd ⟨7, .phase⟩ (by simp) rfl
        · exact hd ⟨8, .phase⟩ (by simp) rfl
        · exact absurd e (by decide)
        · exact absurd e (by decide))), (kp f0), (kp f1), (kp f2), (kp f3), (kp f4), (kp f5), (fun h => by
        obtain ⟨v8, e22, x8, r8⟩ := f6 (upd_ne h (by decide))
        exact ⟨v8, e22, x8, fun h8 => r8 (by rw [upd_other (by decide)] at h8; exact h8)⟩), (fun h => by
        obtain ⟨⟨g12, v8, e22, e12, r12⟩, l6⟩ := f7 (upd_ne h (by decide))
        exact ⟨⟨g12, v8, e22, e12, fun h8 => r12 (by rw [upd_other (by decide)] at h8; exact h8)⟩, upd_mono l6⟩), (fun h => by
        obtain ⟨⟨l6, l4⟩, A9, c9, v8, e22, e9, wp, w9, e10, r⟩ := f8 (upd_ne h (by decide))
        exact ⟨⟨upd_mono l6, upd_mono l4⟩, A9, c9, v8, e22, e9, wp, w9, by rw [upd_other (by decide)]; exact e10, r⟩), (fun _ => rfl), (kp f10), (fun h => absurd (f11 (upd_ne h (by decide)) 9 (by decide)) (by rw [hL]; decide))⟩
    · obtain rfl := Option.some.inj ho
      have g9 := f9 (hd ⟨9, .data⟩ (by simp) rfl)
      subst g9
      refine wpOp_step rfl (fun K' hK => ?_)
      go_simp
      refine hK _ _ ?_
      exact ⟨_, _, _, _, _, _, _, _, _, _, _, rfl, (fun h => I0 (by rw [upd_other (by decide)] at h; exact h)), (Closed.step I1 (by
        intro p hp e
        simp only [List.mem_cons, List.not_mem_nil, or_false] at hp
        rcases hp with rfl | rfl | rfl | rfl | rfl | rfl | rfl | rfl | rfl | rfl | rfl | rfl | rfl | rfl | rfl | rfl | rfl | rfl | rfl
        · exact absurd e (by decide)
        · exact absurd e (by decide)
        · exact absurd e (by decide)
        · exact absurd e (by decide)
        · exact absurd e (by decide)
        · exact absurd e (by decide)
        · exact absurd e (by decide)
        · exact absurd e (by decide)
        · exact absurd e (by decide)
        · exact absurd e (by decide)
        · exact absurd e (by decide)
        · exact absurd e (by decide)
        · exact absurd e (by decide)
        · exact absurd e (by decide)
        · exact absurd e (by decide)
        · exact absurd e (by decide)
        · exact absurd e (by decide)
        · exact hd ⟨9, .data⟩ (by simp) rfl
        · exact absurd e (by decide))), (kp f0), (kp f1), (kp f2), (kp f3), (kp f4), (kp f5), (fun h => by
        obtain ⟨v8, e22, x8, r8⟩ := f6 (upd_ne h (by decide))
        exact ⟨v8, e22, x8, fun h8 => r8 (by rw [upd_other (by decide)] at h8; exact h8)⟩), (fun h => by
        obtain ⟨⟨g12, v8, e22, e12, r12⟩, l6⟩ := f7 (upd_ne h (by decide))
        exact ⟨⟨g12, v8, e22, e12, fun h8 => r12 (by rw [upd_other (by decide)] at h8; exact h8)⟩, upd_mono l6⟩), (fun h => by
        obtain ⟨⟨l6, l4⟩, A9, c9, v8, e22, e9, wp, w9, e10, r⟩ := f8 (upd_ne h (by decide))
        exact ⟨⟨upd_mono l6, upd_mono l4⟩, A9, c9, v8, e22, e9, wp, w9, by rw [upd_other (by decide)]; exact e10, r⟩), (kp f9), (fun _ => rfl), (fun h => absurd (f11 (upd_ne h (by decide)) 10 (by decide)) (by rw [hL]; decide))⟩
    · obtain rfl := Option.some.inj ho
      have g8 := f8 (hd ⟨8, .data⟩ (by simp) rfl)
      have g10 := f10 (hd ⟨10, .data⟩ (by simp) rfl)
      subst g10
      have lq : Hid (∀ q, q < 11 → L q = true) := Lib.hid (by
        intro q hq
        obtain rfl | rfl | rfl | rfl | rfl | rfl | rfl | rfl | rfl | rfl | rfl : q = 0 ∨ q = 1 ∨ q = 2 ∨ q = 3 ∨ q = 4 ∨ q = 5 ∨ q = 6 ∨ q = 7 ∨ q = 8 ∨ q = 9 ∨ q = 10 := by omega
        · exact hd ⟨0, .phase⟩ (by simp) rfl
        · exact hd ⟨1, .phase⟩ (by simp) rfl
        · exact hd ⟨2, .phase⟩ (by simp) rfl
        · exact hd ⟨3, .phase⟩ (by simp) rfl
        · exact hd ⟨4, .phase⟩ (by simp) rfl
        · exact hd ⟨5, .phase⟩ (by simp) rfl
        · exact hd ⟨6, .phase⟩ (by simp) rfl
        · exact hd ⟨7, .phase⟩ (by simp) rfl
        · exact hd ⟨8, .phase⟩ (by simp) rfl
        · exact I1.get (i := 10) (j := 9) (by decide) (hd ⟨10, .data⟩ (by simp) rfl)
        · exact hd ⟨10, .data⟩ (by simp) rfl)
      obtain ⟨ll, A9, c9, v8, e22, e9, wp, w9, e10, r1, r2, r3, r4, r5⟩ := g8
      have LL := Lib.hid ll
      clear ll
      rw [hL, if_neg (by decide)] at e10
      subst e10
      subst e9
      subst e22
      have hb9 : Rw ww b 26 #[.slice A n c, .slice (some ⟨gr, 0, none⟩) 4 d] := Rw.far (SS.out.up r1).box r3 (row_type (by have := (SS.out.up r1).own.row; rw [HN.out] at this; exact this) (SS.out.up r1).box (by decide))
      have z0 : ww.cell? ⟨b, 0, none⟩ = some (.slice A n c) := hb9.cell 0
      have zf : ww.frozen? ⟨b, 0, none⟩ = false := hb9.frozen 0
      refine wpOp_step rfl (fun K' hK => ?_)
      go_simp
      refine hK _ _ ?_
      exact ⟨_, _, _, _, _, _, _, _, _, _, _, rfl, (fun h => by
        rw [upd_other (by decide)] at h
        exact absurd (lq.out 8 (by decide)) (by rw [h]; decide)), (Closed.step I1 (by
        intro p hp e
        simp only [List.mem_cons, List.not_mem_nil, or_false] at hp
        rcases hp with rfl | rfl | rfl | rfl | rfl | rfl | rfl | rfl | rfl | rfl | rfl | rfl | rfl | rfl | rfl | rfl | rfl | rfl | rfl
        · exact absurd e (by decide)
        · exact absurd e (by decide)
        · exact absurd e (by decide)
        · exact absurd e (by decide)
        · exact absurd e (by decide)
        · exact absurd e (by decide)
        · exact absurd e (by decide)
        · exact absurd e (by decide)
        · exact absurd e (by decide)
        · exact absurd e (by decide)
        · exact absurd e (by decide)
        · exact absurd e (by decide)
        · exact absurd e (by decide)
        · exact absurd e (by decide)
        · exact absurd e (by decide)
        · exact absurd e (by decide)
        · exact absurd e (by decide)
        · exact absurd e (by decide)
        · exact hd ⟨10, .data⟩ (by simp) rfl)), (kp f0), (kp f1), (kp f2), (kp f3), (kp f4), (kp f5), (fun h => by
        obtain ⟨v9, e22, x8, r8⟩ := f6 (upd_ne h (by decide))
        exact ⟨v9, e22, x8, fun h8 => absurd (lq.out 8 (by decide)) (by rw [upd_other (by decide)] at h8; rw [h8]; decide)⟩), (fun h => by
        obtain ⟨⟨g12, v9, e22, e12, r12⟩, l6⟩ := f7 (upd_ne h (by decide))
        exact ⟨⟨g12, v9, e22, e12, fun h8 => absurd (lq.out 8 (by decide)) (by rw [upd_other (by decide)] at h8; rw [h8]; decide)⟩, upd_mono l6⟩), (fun _ => ⟨⟨upd_mono LL.out.1, upd_mono LL.out.2⟩, A9, c9, v8, rfl, rfl, wp, ww, by rw [upd_self, if_pos rfl], r1, r2, r3, r4, r5⟩), (kp f9), (kp f10), (fun _ q hq => upd_mono (lq.out q hq))⟩
  case hdone =>
    rintro L ac ww hall ⟨t16, t17, t18, t19, t20, t21, t22, t23, t24, t25, t26, rfl, I0, I1, f0, f1, f2, f3, f4, f5, f6, f7, f8, f9, f10, f11⟩
    have e0 := f0 (hall 0 (by decide))
    have e1 := f1 (hall 1 (by decide))
    have e2 := f2 (hall 2 (by decide))
    have e3 := f3 (hall 3 (by decide))
    have e4 := f4 (hall 4 (by decide))
    have e5 := f5 (hall 5 (by decide))
    have e6 := f6 (hall 6 (by decide))
    have e7 := f7 (hall 7 (by decide))
    have e8 := f8 (hall 8 (by decide))
    have e9 := f9 (hall 9 (by decide))
    have e10 := f10 (hall 10 (by decide))
    have e11 := f11 (hall 11 (by decide))
    clear f0 f1 f2 f3 f4 f5 f6 f7 f8 f9 f10 f11
    obtain ⟨-, A9, c9, v8, rfl, rfl, wp, w9, e17, r1, r2, r3, r4, r5⟩ := e8
    rw [hall 11 (by decide), if_pos rfl] at e17
    subst e17
    have SP := SS.out.up r1
    have hap : ∀ v ∈ (Value.slice A n c) :: (.slice (some ⟨gr, 0, none⟩) 4 d) :: rvs, v8.ownBlock = none ∨ v8.ownBlock ≠ v.ownBlock := fun v hv => by
      cases e : v8.ownBlock with
      | none => exact .inl rfl
      | some k =>
        right
        intro e'
        have a1 := (World.ownsRow.lt r2 k e).1
        have a2 := (SS.out.own.blocks hv e'.symm).2
        omega
    have h8b : v8.ownBlock ≠ some b := fun e => by
      have := (World.ownsRow.lt r2 b e).1
      omega
    have SF := SP.snoc (cl := ⟨true, oc, List.replicate ob (-1)⟩) (v9 := .slice A9 (n + 1) c9) (v8 := v8) r3 (by rw [HN.out]; exact r4) r5 (r2.base (by have := SS.out.low.size; omega)) hap h8b
    clear I0 I1 e0 e1 e2 e3 e4 e5 e6 e7 e9 e10 e11 hall r1 r2 r3 r4 r5 SP hap h8b x0 y0 y1 y2 y3
    go_wp2_with fail
    go_end0
    exact ⟨⟨_, rfl⟩, _, _, _, by rw [HF.out, HN.out]; exact SF⟩
end Go.Proofs.YtfgdenmlfloloaaDoor

namespace Go.Proofs.YtfgdenmlfloloaaDoor
open Go.RowKit
set_option maxRecDepth 100000
theorem hasRoom_any (A R : Option Addr) (n c m d : Nat) (o : Cm) (w : World) : Calls Tryd.prog 73 #[heapV A n c R m d, cmV o] w fun e w' => e = .returned (.bool (decide (¬ (o.op = 1 ∧ 40 ≤ n)))) ∧ Below w.heap.size w w' := by
  have b2 : Below w.heap.size w ((w.alloc (.cells #[.slice A n c, .slice R m d] 26)).alloc (.cells #[.int .i64 o.op, .int .i64 o.a, .int .i64 o.b, .int .i64 o.c] 36)) := ((Below.refl w.heap.size w).alloc (Nat.le_refl _) _).alloc (by simp) _
  by_cases h1 : o.op = 1
  · have hne : (o.op != 1) = false := by simp [h1]
    have R0 := Lib.hid (show decide (¬ (o.op = 1 ∧ 40 ≤ n)) = decide ((n : Int) < 40) by rw [decide_eq_decide]; omega)
    clear h1
    go_enter Tryd.func73, Tryd.ntmps73
    go_wp2_with fail
    go_ret
    exact ⟨by rw [R0.out]; rfl, b2⟩
  · have hne : (o.op != 1) = true := by simp [h1]
    have R0 := Lib.hid (show decide (¬ (o.op = 1 ∧ 40 ≤ n)) = true by rw [decide_eq_true_iff]; omega)
    clear h1
    go_enter Tryd.func73, Tryd.ntmps73
    go_wp2_with fail
    go_ret
    exact ⟨by rw [R0.out]; rfl, b2⟩
set_option maxHeartbeats 2000000 in
theorem stepHeap_bad (A R : Option Addr) (n c m d : Nat) (h : Hp) (o : Cm) (w : World) (hb : o.op < 1 ∨ 6 < o.op) :
    Calls Tryd.prog 19 #[heapV A n c R m d, cmV o] w (GaveH2 w (Hps.stepH h o).1 (Hps.stepH h o).2) := by
  have HF := Lib.hid (Hps.stepH_no (h := h) (.inr (Hps.okCm_none hb)))
  have b2 : Below w.heap.size w (((w.alloc (.cells #[.slice A n c, .slice R m d] 26)).alloc (.cells #[.int .i64 o.op, .int .i64 o.a, .int .i64 o.b, .int .i64 o.c] 36)).alloc (.cells #[.slice none 0 0, .slice none 0 0] 26)) := (((Below.refl w.heap.size w).alloc (Nat.le_refl _) _).alloc (by simp) _).alloc (by simp; omega) _
  have q1 := ((Rw.new w 26 #[.slice A n c, .slice R m d]).alloc (.cells #[.int .i64 o.op, .int .i64 o.a, .int .i64 o.b, .int .i64 o.c] 36)).alloc (.cells #[.slice none 0 0, .slice none 0 0] 26)
  have q2 := (Rw.new (w.alloc (.cells #[.slice A n c, .slice R m d] 26)) 36 #[.int .i64 o.op, .int .i64 o.a, .int .i64 o.b, .int .i64 o.c]).alloc (.cells #[.slice none 0 0, .slice none 0 0] 26)
  have q3 := Rw.new ((w.alloc (.cells #[.slice A n c, .slice R m d] 26)).alloc (.cells #[.int .i64 o.op, .int .i64 o.a, .int .i64 o.b, .int .i64 o.c] 36)) 26 #[.slice none 0 0, .slice none 0 0]
  simp only [World.size_alloc] at q2 q3
  go_enter Tryd.func19, Tryd.ntmps19
  go_wp2_with fail
  refine (operationOf_bad o _ hb).mono ?_
  rintro e w1 ⟨rfl, b1⟩
  replace q1 := (q1.keep b1 q1.lt).alloc (.cells #[.int .i64 0, .int .i64 0, .int .i64 0, .nilFunc, .nilFunc] 111)
  replace q2 := (q2.keep b1 q2.lt).alloc (.cells #[.int .i64 0, .int .i64 0, .int .i64 0, .nilFunc, .nilFunc] 111)
  replace q3 := (q3.keep b1 q3.lt).alloc (.cells #[.int .i64 0, .int .i64 0, .int .i64 0, .nilFunc, .nilFunc] 111)
  have qp := Rw.new w1 111 #[.int .i64 0, .int .i64 0, .int .i64 0, .nilFunc, .nilFunc]
  have b4 := b2.trans (b1.mono b2.size)
  have b3 := b4.alloc b4.size (.cells #[.int .i64 0, .int .i64 0, .int .i64 0, .nilFunc, .nilFunc] 111)
  clear b1 b2 b4
  go_upto_region 2 with fail
  generalize w1.alloc (.cells #[.int .i64 0, .int .i64 0, .int .i64 0, .nilFunc, .nilFunc] 111) = w2 at q1 q2 q3 qp b3 ⊢
  generalize w1.heap.size = b5 at qp ⊢
  have r2 : (w2).frozen? ⟨w.heap.size + 1 + 1, 0, none⟩ = false := q3.frozen 0
  have r3 : (w2).frozen? ⟨w.heap.size + 1 + 1, 1, none⟩ = false := q3.frozen 1
  have r4 : (w2).cell? ⟨w.heap.size + 1 + 1, 0, none⟩ = some (.slice none 0 0) := q3.cell 0
  have r5 : (w2).cell? ⟨w.heap.size + 1 + 1, 1, none⟩ = some (.slice none 0 0) := q3.cell 1
  have r6 : (((w2).setCell ⟨w.heap.size + 1 + 1, 0, none⟩ (.slice none 0 0)).setCell ⟨w.heap.size + 1 + 1, 1, none⟩ (.slice none 0 0)).cell? ⟨w.heap.size + 1 + 1, 0, none⟩ = some (.slice none 0 0) := ((q3.put 0 (.slice none 0 0)).put 1 (.slice none 0 0)).cell 0
  have r7 : (((w2).setCell ⟨w.heap.size + 1 + 1, 0, none⟩ (.slice none 0 0)).setCell ⟨w.heap.size + 1 + 1, 1, none⟩ (.slice none 0 0)).cell? ⟨w.heap.size + 1 + 1, 1, none⟩ = some (.slice none 0 0) := ((q3.put 0 (.slice none 0 0)).put 1 (.slice none 0 0)).cell 1
  have D := Lib.hid (OwnH.out (w := w) (g := w.heap.size + 1 + 1) (own_zeroH w2 w2.heap.size (Nat.le_refl _)) (by exact q3.lt) b3 (by omega))
  clear q1 q2 q3 qp b3 hb
  go_wp2_with fail
  exact bodyPost_ret (v := .tuple #[.agg #[.slice none 0 0, .slice none 0 0], .bool false]) (by simp [results, Tryd.results19, go_sem, *]) rfl ⟨_, _, by rw [HF.out], by rw [HF.out]; exact D.out.1, D.out.2⟩
set_option maxHeartbeats 4000000 in
theorem stepHeap_walk (f g : Nat) (x y z : Int) (A R : Option Addr) (n c m d : Nat) (h : Hp) (o : Cm) (w : World) (hs : HS w w.heap.size A n R m h) (hn : n ≤ 1099511627776) (hm : m ≤ 1099511627776) (hc : n ≤ c) (hd : m ≤ d)
    (hop : ∀ w, Calls Tryd.prog 71 #[cmV o] w fun e w' => e = .returned (.tuple #[opA x y z f g, .bool (Hps.okCm o)]) ∧ Below w.heap.size w w') (hf : Hps.validH h = true → Hps.okCm o = true → PossF f o h) (hg : Hps.canH h o = true → ExecF g o h)
    (hen : ∀ args w, (callFunc f args).run Tryd.prog w = .ok (.enter f args) w) (hen2 : ∀ args w, (callFunc g args).run Tryd.prog w = .ok (.enter g args) w) :
    Calls Tryd.prog 19 #[heapV A n c R m d, cmV o] w (GaveH2 w (Hps.stepH h o).1 (Hps.stepH h o).2) := by
  have HP0 := Lib.hid hf
  have HG := Lib.hid hg
  have HO := Lib.hid hop
  have HE := Lib.hid hen
  have HE2 := Lib.hid hen2
  clear hf hg hop hen hen2
  have b2 : Below w.heap.size w (((w.alloc (.cells #[.slice A n c, .slice R m d] 26)).alloc (.cells #[.int .i64 o.op, .int .i64 o.a, .int .i64 o.b, .int .i64 o.c] 36)).alloc (.cells #[.slice none 0 0, .slice none 0 0] 26)) := (((Below.refl w.heap.size w).alloc (Nat.le_refl _) _).alloc (by simp) _).alloc (by simp; omega) _
  have q1 := ((Rw.new w 26 #[.slice A n c, .slice R m d]).alloc (.cells #[.int .i64 o.op, .int .i64 o.a, .int .i64 o.b, .int .i64 o.c] 36)).alloc (.cells #[.slice none 0 0, .slice none 0 0] 26)
  have q2 := (Rw.new (w.alloc (.cells #[.slice A n c, .slice R m d] 26)) 36 #[.int .i64 o.op, .int .i64 o.a, .int .i64 o.b, .int .i64 o.c]).alloc (.cells #[.slice none 0 0, .slice none 0 0] 26)
  have q3 := Rw.new ((w.alloc (.cells #[.slice A n c, .slice R m d] 26)).alloc (.cells #[.int .i64 o.op, .int .i64 o.a, .int .i64 o.b, .int .i64 o.c] 36)) 26 #[.slice none 0 0, .slice none 0 0]
  simp only [World.size_alloc] at q2 q3
  go_enter Tryd.func19, Tryd.ntmps19
  go_wp2_with fail
  refine (HO.out _).mono ?_
  obtain ⟨r, ho⟩ : ∃ r, Hps.okCm o = r := ⟨_, rfl⟩
  rw [ho]
  rintro e w1 ⟨rfl, b1⟩
  replace q1 := (q1.keep b1 q1.lt).alloc (.cells #[.int .i64 x, .int .i64 y, .int .i64 z, .func (.func f) #[] #[], .func (.func g) #[] #[]] 111)
  replace q2 := (q2.keep b1 q2.lt).alloc (.cells #[.int .i64 x, .int .i64 y, .int .i64 z, .func (.func f) #[] #[], .func (.func g) #[] #[]] 111)
  replace q3 := (q3.keep b1 q3.lt).alloc (.cells #[.int .i64 x, .int .i64 y, .int .i64 z, .func (.func f) #[] #[], .func (.func g) #[] #[]] 111)
  have qp := Rw.new w1 111 #[.int .i64 x, .int .i64 y, .int .i64 z, .func (.func f) #[] #[], .func (.func g) #[] #[]]
  have b4 := b2.trans (b1.mono b2.size)
  have b3 := b4.alloc b4.size (.cells #[.int .i64 x, .int .i64 y, .int .i64 z, .func (.func f) #[] #[], .func (.func g) #[] #[]] 111)
  clear b1 b2 b4
  go_upto_region 2 with fail
  generalize w1.alloc (.cells #[.int .i64 x, .int .i64 y, .int .i64 z, .func (.func f) #[] #[], .func (.func g) #[] #[]] 111) = w2 at q1 q2 q3 qp b3 ⊢
  generalize w1.heap.size = b5 at qp ⊢
  cases r
  · have HF := Lib.hid (Hps.stepH_no (h := h) (.inr ho))
    have r2 : (w2).frozen? ⟨w.heap.size + 1 + 1, 0, none⟩ = false := q3.frozen 0
    have r3 : (w2).frozen? ⟨w.heap.size + 1 + 1, 1, none⟩ = false := q3.frozen 1
    have r4 : (w2).cell? ⟨w.heap.size + 1 + 1, 0, none⟩ = some (.slice none 0 0) := q3.cell 0
    have r5 : (w2).cell? ⟨w.heap.size + 1 + 1, 1, none⟩ = some (.slice none 0 0) := q3.cell 1
    have r6 : (((w2).setCell ⟨w.heap.size + 1 + 1, 0, none⟩ (.slice none 0 0)).setCell ⟨w.heap.size + 1 + 1, 1, none⟩ (.slice none 0 0)).cell? ⟨w.heap.size + 1 + 1, 0, none⟩ = some (.slice none 0 0) := ((q3.put 0 (.slice none 0 0)).put 1 (.slice none 0 0)).cell 0
    have r7 : (((w2).setCell ⟨w.heap.size + 1 + 1, 0, none⟩ (.slice none 0 0)).setCell ⟨w.heap.size + 1 + 1, 1, none⟩ (.slice none 0 0)).cell? ⟨w.heap.size + 1 + 1, 1, none⟩ = some (.slice none 0 0) := ((q3.put 0 (.slice none 0 0)).put 1 (.slice none 0 0)).cell 1
    have D := Lib.hid (OwnH.out (w := w) (g := w.heap.size + 1 + 1) (own_zeroH w2 w2.heap.size (Nat.le_refl _)) (by exact q3.lt) b3 (by omega))
    clear q1 q2 q3 qp b3 ho
    go_wp2_with fail
    exact bodyPost_ret (v := .tuple #[.agg #[.slice none 0 0, .slice none 0 0], .bool false]) (by simp [results, Tryd.results19, go_sem, *]) rfl ⟨_, _, by rw [HF.out], by rw [HF.out]; exact D.out.1, D.out.2⟩
  have HOK := Lib.hid ho
  clear ho
  have x0 : w2.cell? ⟨w.heap.size, 0, none⟩ = some (.slice A n c) := q1.cell 0
  have x1 : w2.cell? ⟨w.heap.size, 1, none⟩ = some (.slice R m d) := q1.cell 1
  have s2 := hs.up b3
  go_wp2_with fail
  refine (heapValid_any _ _ _ _ _ _ h _ s2 hn hm hc hd).mono ?_
  obtain ⟨r, hv⟩ : ∃ r, Hps.validH h = r := ⟨_, rfl⟩
  rw [hv]
  rintro e w3 ⟨rfl, b1⟩
  replace q1 := q1.keep b1 q1.lt
  replace q2 := q2.keep b1 q2.lt
  replace q3 := q3.keep b1 q3.lt
  replace qp := qp.keep b1 qp.lt
  replace b3 := b3.trans (b1.mono b3.size)
  clear b1 s2 x0 x1
  cases r
  · have HF := Lib.hid (Hps.stepH_no (o := o) (.inl hv))
    have r2 : (w3).frozen? ⟨w.heap.size + 1 + 1, 0, none⟩ = false := q3.frozen 0
    have r3 : (w3).frozen? ⟨w.heap.size + 1 + 1, 1, none⟩ = false := q3.frozen 1
    have r4 : (w3).cell? ⟨w.heap.size + 1 + 1, 0, none⟩ = some (.slice none 0 0) := q3.cell 0
    have r5 : (w3).cell? ⟨w.heap.size + 1 + 1, 1, none⟩ = some (.slice none 0 0) := q3.cell 1
    have r6 : (((w3).setCell ⟨w.heap.size + 1 + 1, 0, none⟩ (.slice none 0 0)).setCell ⟨w.heap.size + 1 + 1, 1, none⟩ (.slice none 0 0)).cell? ⟨w.heap.size + 1 + 1, 0, none⟩ = some (.slice none 0 0) := ((q3.put 0 (.slice none 0 0)).put 1 (.slice none 0 0)).cell 0
    have r7 : (((w3).setCell ⟨w.heap.size + 1 + 1, 0, none⟩ (.slice none 0 0)).setCell ⟨w.heap.size + 1 + 1, 1, none⟩ (.slice none 0 0)).cell? ⟨w.heap.size + 1 + 1, 1, none⟩ = some (.slice none 0 0) := ((q3.put 0 (.slice none 0 0)).put 1 (.slice none 0 0)).cell 1
    have D := Lib.hid (OwnH.out (w := w) (g := w.heap.size + 1 + 1) (own_zeroH w3 w3.heap.size (Nat.le_refl _)) (by exact q3.lt) b3 (by omega))
    clear q1 q2 q3 qp b3 hv
    go_wp2_with fail
    exact bodyPost_ret (v := .tuple #[.agg #[.slice none 0 0, .slice none 0 0], .bool false]) (by simp [results, Tryd.results19, go_sem, *]) rfl ⟨_, _, by rw [HF.out], by rw [HF.out]; exact D.out.1, D.out.2⟩
  have HV := Lib.hid hv
  have h40 := (Hps.valid_iff.1 hv).2.1
  have hlc := hs.cells.1
  have H3 := Lib.hid (fun cl (hcl : cl ∈ h.cs) => show cl.r.length ≤ 1000000 by have := (Hps.okCell_iff.1 ((Hps.valid_iff.1 hv).1 cl hcl)).2.2.1; omega)
  have HLC := Lib.hid hlc
  have hn40 : n ≤ 40 := by omega
  clear hv h40 hlc
  have x0 : w3.cell? ⟨w.heap.size, 0, none⟩ = some (.slice A n c) := q1.cell 0
  have x1 : w3.cell? ⟨w.heap.size, 1, none⟩ = some (.slice R m d) := q1.cell 1
  have s3 := hs.up b3
  have B3K := Lib.hid b3
  have Q3K := Lib.hid q3
  go_wp2_with fail
  refine (cloneHeap_any _ _ _ _ _ _ h _ s3 hn hm H3.out).mono ?_
  rintro e w4 ⟨vc, vr, rfl, ow, b1⟩
  have hsz3 := q3.lt
  obtain ⟨rvs, BS0⟩ := BoxSt.of ow b1
  obtain ⟨A5, n5, c5, R5, m5, d5, rfl, rfl⟩ := ow.slices
  replace q1 := (q1.keep b1 q1.lt).alloc (.cells #[.slice A5 n5 c5, .slice R5 m5 d5] 26)
  replace q2 := (q2.keep b1 q2.lt).alloc (.cells #[.slice A5 n5 c5, .slice R5 m5 d5] 26)
  replace q3 := (q3.keep b1 q3.lt).alloc (.cells #[.slice A5 n5 c5, .slice R5 m5 d5] 26)
  replace qp := (qp.keep b1 qp.lt).alloc (.cells #[.slice A5 n5 c5, .slice R5 m5 d5] 26)
  replace b3 := b3.trans (b1.mono b3.size)
  have b6 := b3.alloc b3.size (.cells #[.slice A5 n5 c5, .slice R5 m5 d5] 26)
  clear b1 b3 s3 x0 x1 ow
  go_upto_region 5 with fail
  generalize w4.alloc (.cells #[.slice A5 n5 c5, .slice R5 m5 d5] 26) = w5 at q1 q2 q3 qp b6 BS0 ⊢
  generalize w4.heap.size = b8 at BS0 ⊢
  have x0 : w5.cell? ⟨w.heap.size, 0, none⟩ = some (.slice A n c) := q1.cell 0
  have x1 : w5.cell? ⟨w.heap.size, 1, none⟩ = some (.slice R m d) := q1.cell 1
  have y0 : w5.cell? ⟨w.heap.size + 1, 0, none⟩ = some (.int .i64 o.op) := q2.cell 0
  have y1 : w5.cell? ⟨w.heap.size + 1, 1, none⟩ = some (.int .i64 o.a) := q2.cell 1
  have y2 : w5.cell? ⟨w.heap.size + 1, 2, none⟩ = some (.int .i64 o.b) := q2.cell 2
  have y3 : w5.cell? ⟨w.heap.size + 1, 3, none⟩ = some (.int .i64 o.c) := q2.cell 3
  have z3 : w5.cell? ⟨b5, 3, none⟩ = some (.func (.func f) #[] #[]) := qp.cell 3
  have s5 := hs.up b6
  have hen := HE.out
  go_wp2_with fail
  clear hen
  refine (HP0.out HV.out HOK.out A R n c m d w5 s5 hn hm hc hd).mono ?_
  obtain ⟨r, hr⟩ : ∃ r, Hps.canH h o = r := ⟨_, rfl⟩
  rw [hr]
  rintro e w6 ⟨rfl, b1⟩
  replace q1 := q1.keep b1 q1.lt
  replace q2 := q2.keep b1 q2.lt
  replace q3 := q3.keep b1 q3.lt
  replace qp := qp.keep b1 qp.lt
  replace b6 := b6.trans (b1.mono b6.size)
  replace BS0 := BS0.up b1
  clear b1 s5 x0 x1 y0 y1 y2 y3 z3
  have v0 : w6.cell? ⟨b8, 0, none⟩ = some (.slice A5 n5 c5) := BS0.box.cell 0
  have v1 : w6.cell? ⟨b8, 1, none⟩ = some (.slice R5 m5 d5) := BS0.box.cell 1
  cases r
  · have HF := Lib.hid (Hps.stepH_cannot HV.out HOK.out hr)
    have r2 : (w6).frozen? ⟨w.heap.size + 1 + 1, 0, none⟩ = false := q3.frozen 0
    have r3 : (w6).frozen? ⟨w.heap.size + 1 + 1, 1, none⟩ = false := q3.frozen 1
    have r4 : (w6).cell? ⟨w.heap.size + 1 + 1, 0, none⟩ = some (.slice none 0 0) := q3.cell 0
    have r5 : (w6).cell? ⟨w.heap.size + 1 + 1, 1, none⟩ = some (.slice none 0 0) := q3.cell 1
    have r6 : (((w6).setCell ⟨w.heap.size + 1 + 1, 0, none⟩ (.slice A5 n5 c5)).setCell ⟨w.heap.size + 1 + 1, 1, none⟩ (.slice R5 m5 d5)).cell? ⟨w.heap.size + 1 + 1, 0, none⟩ = some (.slice A5 n5 c5) := ((q3.put 0 (.slice A5 n5 c5)).put 1 (.slice R5 m5 d5)).cell 0
    have r7 : (((w6).setCell ⟨w.heap.size + 1 + 1, 0, none⟩ (.slice A5 n5 c5)).setCell ⟨w.heap.size + 1 + 1, 1, none⟩ (.slice R5 m5 d5)).cell? ⟨w.heap.size + 1 + 1, 1, none⟩ = some (.slice R5 m5 d5) := ((q3.put 0 (.slice A5 n5 c5)).put 1 (.slice R5 m5 d5)).cell 1
    have D := Lib.hid (OwnH.out (w := w) (g := w.heap.size + 1 + 1) BS0.ownH (by omega) b6 (by omega))
    clear q1 q2 q3 qp b6 BS0 hr
    go_wp2_with fail
    exact bodyPost_ret (v := .tuple #[.agg #[.slice A5 n5 c5, .slice R5 m5 d5], .bool false]) (by simp [results, Tryd.results19, go_sem, *]) rfl ⟨_, _, by rw [HF.out], by rw [HF.out]; exact D.out.1, D.out.2⟩
  have HC := Lib.hid hr
  clear hr
  have x0 : w6.cell? ⟨w.heap.size, 0, none⟩ = some (.slice A n c) := q1.cell 0
  have x1 : w6.cell? ⟨w.heap.size, 1, none⟩ = some (.slice R m d) := q1.cell 1
  have y0 : w6.cell? ⟨w.heap.size + 1, 0, none⟩ = some (.int .i64 o.op) := q2.cell 0
  have y1 : w6.cell? ⟨w.heap.size + 1, 1, none⟩ = some (.int .i64 o.a) := q2.cell 1
  have y2 : w6.cell? ⟨w.heap.size + 1, 2, none⟩ = some (.int .i64 o.b) := q2.cell 2
  have y3 : w6.cell? ⟨w.heap.size + 1, 3, none⟩ = some (.int .i64 o.c) := q2.cell 3
  go_wp2_with fail
  refine (hasRoom_any A R n c m d o w6).mono ?_
  obtain ⟨r, hr⟩ : ∃ r, decide (¬ (o.op = 1 ∧ 40 ≤ n)) = r := ⟨_, rfl⟩
  rw [hr]
  rintro e w7 ⟨rfl, b1⟩
  replace q1 := q1.keep b1 q1.lt
  replace q2 := q2.keep b1 q2.lt
  replace q3 := q3.keep b1 q3.lt
  replace qp := qp.keep b1 qp.lt
  replace b6 := b6.trans (b1.mono b6.size)
  replace BS0 := BS0.up b1
  clear b1 x0 x1 y0 y1 y2 y3 v0 v1
  cases r
  · have v0 : w7.cell? ⟨b8, 0, none⟩ = some (.slice A5 n5 c5) := BS0.box.cell 0
    have v1 : w7.cell? ⟨b8, 1, none⟩ = some (.slice R5 m5 d5) := BS0.box.cell 1
    have HF := Lib.hid (show Hps.stepH h o = (h, false) by
      have hr := of_decide_eq_false hr
      have h1 : o.op = 1 := by omega
      have h2 : 40 ≤ n := by omega
      exact Hps.stepH_full HV.out HOK.out h1 (by rw [HLC.out]; omega))
    have r2 : (w7).frozen? ⟨w.heap.size + 1 + 1, 0, none⟩ = false := q3.frozen 0
    have r3 : (w7).frozen? ⟨w.heap.size + 1 + 1, 1, none⟩ = false := q3.frozen 1
    have r4 : (w7).cell? ⟨w.heap.size + 1 + 1, 0, none⟩ = some (.slice none 0 0) := q3.cell 0
    have r5 : (w7).cell? ⟨w.heap.size + 1 + 1, 1, none⟩ = some (.slice none 0 0) := q3.cell 1
    have r6 : (((w7).setCell ⟨w.heap.size + 1 + 1, 0, none⟩ (.slice A5 n5 c5)).setCell ⟨w.heap.size + 1 + 1, 1, none⟩ (.slice R5 m5 d5)).cell? ⟨w.heap.size + 1 + 1, 0, none⟩ = some (.slice A5 n5 c5) := ((q3.put 0 (.slice A5 n5 c5)).put 1 (.slice R5 m5 d5)).cell 0
    have r7 : (((w7).setCell ⟨w.heap.size + 1 + 1, 0, none⟩ (.slice A5 n5 c5)).setCell ⟨w.heap.size + 1 + 1, 1, none⟩ (.slice R5 m5 d5)).cell? ⟨w.heap.size + 1 + 1, 1, none⟩ = some (.slice R5 m5 d5) := ((q3.put 0 (.slice A5 n5 c5)).put 1 (.slice R5 m5 d5)).cell 1
    have D := Lib.hid (OwnH.out (w := w) (g := w.heap.size + 1 + 1) BS0.ownH (by omega) b6 (by omega))
    clear q1 q2 q3 qp b6 BS0 hr
    go_wp2_with fail
    exact bodyPost_ret (v := .tuple #[.agg #[.slice A5 n5 c5, .slice R5 m5 d5], .bool false]) (by simp [results, Tryd.results19, go_sem, *]) rfl ⟨_, _, by rw [HF.out], by rw [HF.out]; exact D.out.1, D.out.2⟩
  have HF := Lib.hid (Hps.stepH_does HV.out HOK.out HC.out (by
    have hr := of_decide_eq_true hr
    rw [HLC.out]
    omega))
  clear hr
  have y0 : w7.cell? ⟨w.heap.size + 1, 0, none⟩ = some (.int .i64 o.op) := q2.cell 0
  have y1 : w7.cell? ⟨w.heap.size + 1, 1, none⟩ = some (.int .i64 o.a) := q2.cell 1
  have y2 : w7.cell? ⟨w.heap.size + 1, 2, none⟩ = some (.int .i64 o.b) := q2.cell 2
  have y3 : w7.cell? ⟨w.heap.size + 1, 3, none⟩ = some (.int .i64 o.c) := q2.cell 3
  have z4 : w7.cell? ⟨b5, 4, none⟩ = some (.func (.func g) #[] #[]) := qp.cell 4
  have hen2 := HE2.out
  go_wp2_with fail
  clear hen2
  refine (HG.out HC.out _ _ _ _ _ _ BS0).mono ?_
  rintro e w8 ⟨⟨ev, rfl⟩, vc', vr', rvs', BS1⟩
  replace q3 := Q3K.out.keep BS1.low hsz3
  have b9 : Below w.heap.size w w8 := B3K.out.trans (BS1.low.mono B3K.out.size)
  obtain ⟨A6, n6, c6, R6, m6, d6, rfl, rfl⟩ := BS1.ownH.slices
  clear y0 y1 y2 y3 z4 q1 q2 qp BS0
  have v0 : w8.cell? ⟨b8, 0, none⟩ = some (.slice A6 n6 c6) := BS1.box.cell 0
  have v1 : w8.cell? ⟨b8, 1, none⟩ = some (.slice R6 m6 d6) := BS1.box.cell 1
  have r2 : (w8).frozen? ⟨w.heap.size + 1 + 1, 0, none⟩ = false := q3.frozen 0
  have r3 : (w8).frozen? ⟨w.heap.size + 1 + 1, 1, none⟩ = false := q3.frozen 1
  have r4 : (w8).cell? ⟨w.heap.size + 1 + 1, 0, none⟩ = some (.slice none 0 0) := q3.cell 0
  have r5 : (w8).cell? ⟨w.heap.size + 1 + 1, 1, none⟩ = some (.slice none 0 0) := q3.cell 1
  have r6 : (((w8).setCell ⟨w.heap.size + 1 + 1, 0, none⟩ (.slice A6 n6 c6)).setCell ⟨w.heap.size + 1 + 1, 1, none⟩ (.slice R6 m6 d6)).cell? ⟨w.heap.size + 1 + 1, 0, none⟩ = some (.slice A6 n6 c6) := ((q3.put 0 (.slice A6 n6 c6)).put 1 (.slice R6 m6 d6)).cell 0
  have r7 : (((w8).setCell ⟨w.heap.size + 1 + 1, 0, none⟩ (.slice A6 n6 c6)).setCell ⟨w.heap.size + 1 + 1, 1, none⟩ (.slice R6 m6 d6)).cell? ⟨w.heap.size + 1 + 1, 1, none⟩ = some (.slice R6 m6 d6) := ((q3.put 0 (.slice A6 n6 c6)).put 1 (.slice R6 m6 d6)).cell 1
  have D := Lib.hid (OwnH.out (w := w) (g := w.heap.size + 1 + 1) BS1.ownH (by omega) b9 (by omega))
  clear q3 b9 BS1
  go_wp2_with fail
  exact bodyPost_ret (v := .tuple #[.agg #[.slice A6 n6 c6, .slice R6 m6 d6], .bool true]) (by simp [results, Tryd.results19, go_sem, *]) rfl ⟨_, _, by rw [HF.out], by rw [HF.out]; exact D.out.1, D.out.2⟩
theorem exec_1 {a b cc : Int} {h : Hp} (hc : Hps.canH h ⟨1, a, b, cc⟩ = true) : ExecF 127 ⟨1, a, b, cc⟩ h := by
  obtain ⟨hv, ho⟩ := Hps.canH_parts hc
  obtain ⟨⟨a1, a2⟩, ⟨b1, b2⟩, _⟩ := (Hps.okCm_new rfl).1 ho
  simp only at a1 a2 b1 b2
  obtain ⟨a, rfl⟩ := Int.eq_ofNat_of_zero_le a1
  obtain ⟨b, rfl⟩ := Int.eq_ofNat_of_zero_le b1
  exact exec_new hv (by omega) (by omega)
theorem exec_2 {a b cc : Int} {h : Hp} (hc : Hps.canH h ⟨2, a, b, cc⟩ = true) : ExecF 129 ⟨2, a, b, cc⟩ h := by
  obtain ⟨hv, ho⟩ := Hps.canH_parts hc
  rw [Hps.canH_get hv ho rfl] at hc
  obtain ⟨⟨a1, a2⟩, ⟨b1, b2⟩, ⟨c1, c2⟩⟩ := (Hps.okCm_get (.inl rfl)).1 ho
  simp only at a1 a2 b1 b2 c1 c2 hc
  obtain ⟨a, rfl⟩ := Int.eq_ofNat_of_zero_le a1
  obtain ⟨b, rfl⟩ := Int.eq_ofNat_of_zero_le b1
  obtain ⟨cc, rfl⟩ := Int.eq_ofNat_of_zero_le c1
  obtain ⟨k, cl, hk, hcl, hp⟩ := Hps.placeH_iff.1 hc
  exact exec_get hv (by omega) (by omega) hk hcl (by omega)
theorem exec_3 {a b cc : Int} {h : Hp} (hc : Hps.canH h ⟨3, a, b, cc⟩ = true) : ExecF 131 ⟨3, a, b, cc⟩ h := by
  obtain ⟨hv, ho⟩ := Hps.canH_parts hc
  rw [Hps.canH_set hv ho rfl] at hc
  obtain ⟨⟨a1, a2⟩, ⟨b1, b2⟩, ⟨c1, c2⟩⟩ := (Hps.okCm_get (.inr rfl)).1 ho
  simp only at a1 a2 b1 b2 c1 c2 hc
  obtain ⟨a, rfl⟩ := Int.eq_ofNat_of_zero_le a1
  obtain ⟨b, rfl⟩ := Int.eq_ofNat_of_zero_le b1
  obtain ⟨cc, rfl⟩ := Int.eq_ofNat_of_zero_le c1
  obtain ⟨k, cl, hk, hcl, hp⟩ := Hps.placeH_iff.1 hc
  exact exec_set hv (by omega) (by omega) hk hcl (by omega)
theorem exec_4 {a b cc : Int} {h : Hp} (hc : Hps.canH h ⟨4, a, b, cc⟩ = true) : ExecF 132 ⟨4, a, b, cc⟩ h := by
  obtain ⟨hv, ho⟩ := Hps.canH_parts hc
  obtain ⟨⟨a1, a2⟩, ⟨b1, b2⟩, _⟩ := (Hps.okCm_copy rfl).1 ho
  simp only at a1 a2 b1 b2
  obtain ⟨a, rfl⟩ := Int.eq_ofNat_of_zero_le a1
  obtain ⟨b, rfl⟩ := Int.eq_ofNat_of_zero_le b1
  exact exec_copy hv (by omega) (by omega)
theorem exec_5 {a b cc : Int} {h : Hp} (hc : Hps.canH h ⟨5, a, b, cc⟩ = true) : ExecF 133 ⟨5, a, b, cc⟩ h := by
  obtain ⟨hv, ho⟩ := Hps.canH_parts hc
  obtain ⟨a1, a2⟩ := Hps.okCm_a ho
  simp only at a1 a2
  obtain ⟨a, rfl⟩ := Int.eq_ofNat_of_zero_le a1
  exact exec_drop hv (by omega)
theorem exec_6 {a b cc : Int} {h : Hp} (hc : Hps.canH h ⟨6, a, b, cc⟩ = true) : ExecF 135 ⟨6, a, b, cc⟩ h := by
  obtain ⟨hv, ho⟩ := Hps.canH_parts hc
  obtain ⟨a1, a2⟩ := Hps.okCm_a ho
  rw [Hps.canH_data hv ho rfl, decide_eq_true_iff] at hc
  simp only at a1 a2 hc
  obtain ⟨a, rfl⟩ := Int.eq_ofNat_of_zero_le a1
  have hr4 := (Hps.valid_iff.1 hv).2.2.1
  have hx := List.getElem?_eq_getElem (show a < h.rt.length by omega)
  generalize h.rt[a]'(by omega) = x at hx
  have hk := Hps.rootAt_nat hx
  rw [hk] at hc
  obtain ⟨k, rfl⟩ := Int.eq_ofNat_of_zero_le hc
  obtain ⟨k', e, hl, _⟩ := Hps.okRef_nat (Hps.valid_root hv hx) hc
  have e : k = k' := by omega
  subst e
  exact exec_data hv (by omega) hk (List.getElem?_eq_getElem hl)
theorem stepHeap_any (A R : Option Addr) (n c m d : Nat) (h : Hp) (o : Cm) (w : World) (hs : HS w w.heap.size A n R m h) (hn : n ≤ 1099511627776) (hm : m ≤ 1099511627776) (hc : n ≤ c) (hd : m ≤ d) :
    Calls Tryd.prog 19 #[heapV A n c R m d, cmV o] w (GaveH2 w (Hps.stepH h o).1 (Hps.stepH h o).2) := by
  by_cases hb : o.op < 1 ∨ 6 < o.op
  · exact stepHeap_bad A R n c m d h o w hb
  · obtain ⟨op, a, b, cc⟩ := o
    simp only at hb
    obtain rfl | rfl | rfl | rfl | rfl | rfl : op = 1 ∨ op = 2 ∨ op = 3 ∨ op = 4 ∨ op = 5 ∨ op = 6 := by omega
    · exact stepHeap_walk _ _ _ _ _ A R n c m d h _ w hs hn hm hc hd (operationOf_1 a b cc) (fun hv ho => poss_always (Hps.canH_else hv ho (by simp) (by simp) (by simp))) exec_1 (run_entered Tryd.func126 (by decide) (by rfl)) (run_entered Tryd.func127 (by decide) (by rfl))
    · exact stepHeap_walk _ _ _ _ _ A R n c m d h _ w hs hn hm hc hd (operationOf_2 a b cc) (fun hv ho => poss_get hv ho rfl) exec_2 (run_entered Tryd.func128 (by decide) (by rfl)) (run_entered Tryd.func129 (by decide) (by rfl))
    · exact stepHeap_walk _ _ _ _ _ A R n c m d h _ w hs hn hm hc hd (operationOf_3 a b cc) (fun hv ho => poss_set hv ho rfl) exec_3 (run_entered Tryd.func130 (by decide) (by rfl)) (run_entered Tryd.func131 (by decide) (by rfl))
    · exact stepHeap_walk _ _ _ _ _ A R n c m d h _ w hs hn hm hc hd (operationOf_4 a b cc) (fun hv ho => poss_always (Hps.canH_else hv ho (by simp) (by simp) (by simp))) exec_4 (run_entered Tryd.func126 (by decide) (by rfl)) (run_entered Tryd.func132 (by decide) (by rfl))
    · exact stepHeap_walk _ _ _ _ _ A R n c m d h _ w hs hn hm hc hd (operationOf_5 a b cc) (fun hv ho => poss_always (Hps.canH_else hv ho (by simp) (by simp) (by simp))) exec_5 (run_entered Tryd.func126 (by decide) (by rfl)) (run_entered Tryd.func133 (by decide) (by rfl))
    · exact stepHeap_walk _ _ _ _ _ A R n c m d h _ w hs hn hm hc hd (operationOf_6 a b cc) (fun hv ho => poss_data hv ho rfl) exec_6 (run_entered Tryd.func134 (by decide) (by rfl)) (run_entered Tryd.func135 (by decide) (by rfl))
end Go.Proofs.YtfgdenmlfloloaaDoor

namespace Go.Proofs.YtfgdenmlfloloaaDoor
open Go.RowKit
set_option maxRecDepth 100000
namespace Hps
/-- an instruction that uses the first cell that is not used -/
def reuH (h : Hp) (o : Cm) : Hp × Bool := if !canH h o || (decide (o.op = 1) && decide (gapH h = 40)) then (h, false) else (doH h o (gapH h), true)
theorem reuH_step {h : Hp} {o : Cm} (hv : validH h = true) (ho : okCm o = true) (hne : o.op ≠ 1 ∨ gapH h = h.cs.length) : stepH h o = reuH h o := by
  unfold stepH reuH
  rw [if_pos (by rw [hv, ho]; rfl)]
  by_cases h1 : o.op = 1
  · rcases hne with e | e
    · exact absurd h1 e
    · rw [e]
  · rw [decide_eq_false h1, Bool.false_and, Bool.false_and, show doH h o h.cs.length = doH h o (gapH h) by unfold doH; rw [if_neg h1, if_neg h1]]
theorem reuH_new {h : Hp} {o : Cm} (hv : validH h = true) (ho : okCm o = true) (h1 : o.op = 1) (hg : gapH h < h.cs.length) : reuH h o = (⟨h.cs.set (gapH h) ⟨true, o.c, List.replicate o.b.toNat (-1)⟩, h.rt.set o.a.toNat (gapH h : Int)⟩, true) := by
  have h40 := (valid_iff.1 hv).2.1
  unfold reuH
  rw [if_neg]
  · unfold doH
    rw [if_pos h1]
    unfold putCl
    rw [if_neg (by omega)]
    rfl
  · rw [canH_else hv ho (by omega) (by omega) (by omega), decide_eq_false (show ¬ gapH h = 40 by omega)]
    simp
theorem gap_ctz {h : Hp} (hl : h.cs.length ≤ 40) : Lib.ctz 64 (18446744073709551615 - usedW h.cs) = gapH h ∧ usedW h.cs < 18446744073709551615 := by
  have hlt := usedW_lt (cs := h.cs) (by omega)
  have hb : ∀ i, (18446744073709551615 - usedW h.cs).testBit i = (decide (i < 64) && !usedAt h.cs i) := fun i => by
    rw [show 18446744073709551615 - usedW h.cs = 2 ^ 64 - (usedW h.cs + 1) by omega, Nat.testBit_two_pow_sub_succ (by omega), usedW_bit]
  have hout : ∀ i, h.cs.length ≤ i → usedAt h.cs i = false := fun i hi => by
    unfold usedAt
    rw [List.getElem?_eq_none hi]
  have h0 : 18446744073709551615 - usedW h.cs ≠ 0 := fun e => by
    have := hb 63
    rw [e, hout 63 (by omega)] at this
    simp at this
  refine ⟨?_, by omega⟩
  obtain ⟨h1, h2⟩ := Bm.ctz_bit h0 (by omega)
  generalize Lib.ctz 64 (18446744073709551615 - usedW h.cs) = k at h1 h2 ⊢
  rw [hb] at h1
  have hk : k ≤ h.cs.length := by
    rcases Nat.lt_or_ge h.cs.length k with e | e
    · have := h2 _ e
      rw [hb, hout _ (Nat.le_refl _)] at this
      simp at this
      omega
    · exact e
  have hbef : ∀ j, j < k → usedAt h.cs j = true := fun j hj => by
    have := h2 j hj
    rw [hb] at this
    have hj64 : j < 64 := by omega
    simpa [hj64] using this
  rcases gapH_cases h with ⟨e1, e2⟩ | ⟨e1, e2, e3⟩
  · rw [e1]
    rcases Nat.lt_or_ge k h.cs.length with e | e
    · rw [e2 k e] at h1
      simp at h1
    · omega
  · rcases Nat.lt_trichotomy k (gapH h) with e | e | e
    · rw [e3 k e] at h1
      simp at h1
    · exact e
    · rw [hbef _ e] at e2
      cases e2
end Hps
set_option maxHeartbeats 4000000 in
theorem stepReusing_any (A R : Option Addr) (n c m d : Nat) (h : Hp) (o : Cm) (w : World) (hT : TzT w) (hs : HS w w.heap.size A n R m h) (hv : Hps.validH h = true) (ho : Hps.okCm o = true) (hc : n ≤ c) (hd : m ≤ d) :
    Calls Tryd.prog 59 #[heapV A n c R m d, cmV o] w (GaveH2 w (Hps.reuH h o).1 (Hps.reuH h o).2) := by
  obtain ⟨op, oa, ob, oc⟩ := o
  have hlc := hs.cells.1
  have hlr := hs.roots.1
  have h40 := (Hps.valid_iff.1 hv).2.1
  have hr4 := (Hps.valid_iff.1 hv).2.2.1
  have hgl := Hps.gapH_le h
  obtain ⟨HCZ, HUL⟩ := Hps.gap_ctz h40
  have b2 : Below w.heap.size w (((w.alloc (.cells #[.slice A n c, .slice R m d] 26)).alloc (.cells #[.int .i64 op, .int .i64 oa, .int .i64 ob, .int .i64 oc] 36)).alloc (.cells #[.slice none 0 0, .slice none 0 0] 26)) := (((Below.refl w.heap.size w).alloc (Nat.le_refl _) _).alloc (by simp) _).alloc (by simp; omega) _
  have q1 := ((Rw.new w 26 #[.slice A n c, .slice R m d]).alloc (.cells #[.int .i64 op, .int .i64 oa, .int .i64 ob, .int .i64 oc] 36)).alloc (.cells #[.slice none 0 0, .slice none 0 0] 26)
  have q2 := (Rw.new (w.alloc (.cells #[.slice A n c, .slice R m d] 26)) 36 #[.int .i64 op, .int .i64 oa, .int .i64 ob, .int .i64 oc]).alloc (.cells #[.slice none 0 0, .slice none 0 0] 26)
  have q3 := Rw.new ((w.alloc (.cells #[.slice A n c, .slice R m d] 26)).alloc (.cells #[.int .i64 op, .int .i64 oa, .int .i64 ob, .int .i64 oc] 36)) 26 #[.slice none 0 0, .slice none 0 0]
  simp only [World.size_alloc] at q2 q3
  have hT2 := hT.below b2
  have s2 := hs.up b2
  go_enter Tryd.func59, Tryd.ntmps59
  go_upto_region 1 with fail
  generalize (((w.alloc (.cells #[.slice A n c, .slice R m d] 26)).alloc (.cells #[.int .i64 op, .int .i64 oa, .int .i64 ob, .int .i64 oc] 36)).alloc (.cells #[.slice none 0 0, .slice none 0 0] 26)) = w2 at b2 q1 q2 q3 hT2 s2 ⊢
  have x0 : w2.cell? ⟨w.heap.size, 0, none⟩ = some (.slice A n c) := q1.cell 0
  obtain ⟨gp, hgp⟩ : ∃ gp, Hps.gapH h = gp := ⟨_, rfl⟩
  have HV := Lib.hid hv
  have HO := Lib.hid ho
  have HGP := Lib.hid hgp
  have HLC := Lib.hid hlc
  have HR4 := Lib.hid hr4
  rw [hgp] at hgl HCZ
  clear hv ho hgp hr4
  go_wp2_with fail
  refine (usedSet_any _ _ _ _ _ s2.cells (by omega)).mono ?_
  rintro e w3 ⟨rfl, b3⟩
  replace q1 := q1.keep b3 q1.lt
  replace q2 := q2.keep b3 q2.lt
  replace q3 := q3.keep b3 q3.lt
  have hT3 := hT2.below b3
  replace s2 := s2.up b3
  replace b2 := b2.trans (b3.mono b2.size)
  clear x0 b3 hT2
  go_wp2_with fail
  refine (firstOutside_any _ _ hT3 HUL).mono ?_
  rw [HCZ]
  rintro e w4 ⟨rfl, rfl⟩
  clear HCZ HUL
  have x0 : w3.cell? ⟨w.heap.size, 0, none⟩ = some (.slice A n c) := q1.cell 0
  have x1 : w3.cell? ⟨w.heap.size, 1, none⟩ = some (.slice R m d) := q1.cell 1
  have y0 : w3.cell? ⟨w.heap.size + 1, 0, none⟩ = some (.int .i64 op) := q2.cell 0
  have y1 : w3.cell? ⟨w.heap.size + 1, 1, none⟩ = some (.int .i64 oa) := q2.cell 1
  have y2 : w3.cell? ⟨w.heap.size + 1, 2, none⟩ = some (.int .i64 ob) := q2.cell 2
  have y3 : w3.cell? ⟨w.heap.size + 1, 3, none⟩ = some (.int .i64 oc) := q2.cell 3
  have hsz3 := q3.lt
  by_cases h1 : op = 1
  · have hne : (op != 1) = false := by simp [h1]
    by_cases hgn : gp = n
    · have HF := Lib.hid (Hps.reuH_step HV.out HO.out (.inr (by rw [HGP.out, HLC.out]; exact hgn)))
      have hcond : ((gp : Int) == (n : Int)) = true := by simp [hgn]
      clear h1 hgn
      go_wp2_with fail
      refine (stepHeap_any _ _ _ _ _ _ h ⟨op, oa, ob, oc⟩ _ s2 (by omega) (by have := HR4.out; omega) hc hd).mono ?_
      rw [HF.out]
      rintro e w5 ⟨vc, vr, rfl, ow, b5⟩
      obtain ⟨A5, n5, c5, R5, m5, d5, rfl, rfl⟩ := ow.slices
      have b9 := b2.trans (b5.mono b2.size)
      replace q3 := q3.keep b5 q3.lt
      clear q1 q2 b2 b5 x0 x1 y0 y1 y2 y3 s2
      have r2 : (w5).frozen? ⟨w.heap.size + 1 + 1, 0, none⟩ = false := q3.frozen 0
      have r3 : (w5).frozen? ⟨w.heap.size + 1 + 1, 1, none⟩ = false := q3.frozen 1
      have r4 : (w5).cell? ⟨w.heap.size + 1 + 1, 0, none⟩ = some (.slice none 0 0) := q3.cell 0
      have r5 : (w5).cell? ⟨w.heap.size + 1 + 1, 1, none⟩ = some (.slice none 0 0) := q3.cell 1
      have r6 : (((w5).setCell ⟨w.heap.size + 1 + 1, 0, none⟩ (.slice A5 n5 c5)).setCell ⟨w.heap.size + 1 + 1, 1, none⟩ (.slice R5 m5 d5)).cell? ⟨w.heap.size + 1 + 1, 0, none⟩ = some (.slice A5 n5 c5) := ((q3.put 0 (.slice A5 n5 c5)).put 1 (.slice R5 m5 d5)).cell 0
      have r7 : (((w5).setCell ⟨w.heap.size + 1 + 1, 0, none⟩ (.slice A5 n5 c5)).setCell ⟨w.heap.size + 1 + 1, 1, none⟩ (.slice R5 m5 d5)).cell? ⟨w.heap.size + 1 + 1, 1, none⟩ = some (.slice R5 m5 d5) := ((q3.put 0 (.slice A5 n5 c5)).put 1 (.slice R5 m5 d5)).cell 1
      have D := Lib.hid (OwnH.out (w := w) (g := w.heap.size + 1 + 1) (ow) (by omega) (b9) (by omega))
      clear q3 b9 ow
      generalize (Hps.reuH h ⟨op, oa, ob, oc⟩).2 = ok at *
      go_wp2_with fail
      exact bodyPost_ret (v := .tuple #[.agg #[.slice A5 n5 c5, .slice R5 m5 d5], .bool ok]) (by simp [results, Tryd.results59, go_sem, *]) rfl ⟨_, _, rfl, D.out.1, D.out.2⟩
    · have hcond : ((gp : Int) == (n : Int)) = false := by rw [beq_eq_false_iff_ne]; omega
      obtain ⟨⟨a1, a2⟩, ⟨b1, b2'⟩, -⟩ := (Hps.okCm_new (o := ⟨op, oa, ob, oc⟩) h1).1 HO.out
      simp only at a1 a2 b1 b2'
      have HF := Lib.hid (Hps.reuH_new HV.out HO.out h1 (by rw [HGP.out, HLC.out]; omega))
      obtain ⟨ob, rfl⟩ := Int.eq_ofNat_of_zero_le b1
      obtain ⟨oa, rfl⟩ := Int.eq_ofNat_of_zero_le a1
      have h3 : ∀ cl ∈ h.cs, cl.r.length ≤ 1000000 := fun cl hcl => by have := (Hps.okCell_iff.1 ((Hps.valid_iff.1 HV.out).1 cl hcl)).2.2.1; omega
      have H3 := Lib.hid h3
      have hgn9 : gp < n := by omega
      clear h1 hgn h3 a1 b1
      go_wp2_with fail
      refine (cloneHeap_any _ _ _ _ _ _ h _ s2 (by omega) (by have := HR4.out; omega) H3.out).mono ?_
      rintro e w5 ⟨vc, vr, rfl, ow, b5⟩
      obtain ⟨rvs, S0⟩ := BoxSt.of ow b5
      obtain ⟨A5, c5, gr, d5, rfl, rfl, fA⟩ := S0.form (by have := HR4.out; omega)
      obtain ⟨gc, rfl⟩ := fA (by omega)
      rw [HLC.out, HR4.out] at S0 ⊢
      have q2' := (q2.keep b5 q2.lt).alloc (.cells #[.slice (some ⟨gc, 0, none⟩) n c5, .slice (some ⟨gr, 0, none⟩) 4 d5] 26)
      have Q3K := Lib.hid q3
      have B2K := Lib.hid b2
      clear q1 q2 q3 b2 b5 ow fA x0 x1 y0 y1 y2 y3 s2
      go_upto_region 5 with fail
      generalize w5.alloc (.cells #[.slice (some ⟨gc, 0, none⟩) n c5, .slice (some ⟨gr, 0, none⟩) 4 d5] 26) = w6 at S0 q2' ⊢
      generalize w5.heap.size = b at S0 ⊢
      obtain ⟨qc, hqc⟩ : ∃ qc, w.heap.size + 1 = qc := ⟨_, rfl⟩
      have HQC := Lib.hid hqc
      rw [hqc] at q2' ⊢
      clear hqc
      have hbl := S0.box.lt
      have hql := q2'.lt
      have x0 : w6.cell? ⟨b, 0, none⟩ = some (.slice (some ⟨gc, 0, none⟩) n c5) := S0.box.cell 0
      have y0 : w6.cell? ⟨qc, 0, none⟩ = some (.int .i64 op) := q2'.cell 0
      have y1 : w6.cell? ⟨qc, 1, none⟩ = some (.int .i64 oa) := q2'.cell 1
      have y2 : w6.cell? ⟨qc, 2, none⟩ = some (.int .i64 ob) := q2'.cell 2
      have y3 : w6.cell? ⟨qc, 3, none⟩ = some (.int .i64 oc) := q2'.cell 3
      have hgn' : (gp : Int) < n := by omega
      have SS := Lib.hid S0
      have QQ := Lib.hid q2'
      clear S0 q2'
      refine wp_region_inv (by kernel_rfl) (by kernel_rfl) (fun L ac ww => ∃ t29 t30 t31 t32 t33 t34 : Value, ac = { tmps := #[heapV A n c R m d, cmV { op := op, a := ↑oa, b := ↑ob, c := oc }, Value.pointer (some { block := w.heap.size, off := 0 }), Value.pointer (some { block := qc, off := 0 }), Value.pointer (some { block := qc + 1, off := 0 }), Value.bool false, Value.int IntKind.i64 ↑gp, Value.pointer (some { block := b, off := 0 }), Value.pointer (some { block := w.heap.size, off := 0 }), Value.slice A n c, Value.int IntKind.u64 ↑(Hps.usedW h.cs), Value.int IntKind.i64 ↑gp, Value.pointer (some { block := qc, off := 0 }), Value.int IntKind.i64 op, Value.bool false, Value.bool false, Value.int IntKind.i64 ↑gp, Value.pointer (some { block := w.heap.size, off := 0 }), Value.slice A n c, Value.int IntKind.i64 ↑n, Value.bool false, Value.bool false, undef, undef, undef, undef, undef, Value.agg #[Value.slice A n c, Value.slice R m d], Value.agg #[Value.slice (some { block := gc, off := 0 }) n c5, Value.slice (some { block := gr, off := 0 }) 4 d5], t29, t30, t31, t32, t33, t34, undef, undef, undef, undef, undef, undef, undef], defers := [] } ∧ (L 6 = false → Below w6.heap.size w6 ww) ∧ (L 0 = true → t29 = .pointer (some ⟨b, 0, none⟩)) ∧ (L 1 = true → t30 = .slice (some ⟨gc, 0, none⟩) n c5) ∧ (L 2 = true → t31 = .int .i64 gp) ∧ (L 3 = true → t32 = cmV ⟨op, oa, ob, oc⟩) ∧ (L 4 = true → ∃ v8, t33 = .agg #[.bool true, .int .i64 oc, v8] ∧ (∃ A8 c8, v8 = .slice A8 ob c8) ∧ (L 6 = false → OwnI ww w6.heap.size v8 (List.replicate ob (-1)))) ∧ (L 5 = true → (∀ q, q < 5 → L q = true) ∧ t34 = .pointer (some ⟨gc, gp * 3, none⟩)) ∧ (L 6 = true → (∀ q, q < 6 → L q = true) ∧ ∃ v8 wp, (∃ A8 c8, v8 = .slice A8 ob c8) ∧ ww = ((wp.setCell ⟨gc, gp * 3, none⟩ (.bool true)).setCell ⟨gc, gp * 3 + 1, none⟩ (.int .i64 oc)).setCell ⟨gc, gp * 3 + 2, none⟩ v8 ∧ Below w6.heap.size w6 wp ∧ OwnI wp w6.heap.size v8 (List.replicate ob (-1)))) ?h0 ?hstep ?hdone
      case h0 => exact ⟨_, _, _, _, _, _, rfl, fun _ => (Below.refl _ _).drew, (fun h => absurd h Bool.false_ne_true), (fun h => absurd h Bool.false_ne_true), (fun h => absurd h Bool.false_ne_true), (fun h => absurd h Bool.false_ne_true), (fun h => absurd h Bool.false_ne_true), (fun h => absurd h Bool.false_ne_true), (fun h => absurd h Bool.false_ne_true)⟩
      case hstep =>
        rintro L ac ww i o ho hL hd ⟨t29, t30, t31, t32, t33, t34, rfl, I0, f0, f1, f2, f3, f4, f5, f6⟩
        have hi : i < 7 := (Array.getElem?_eq_some_iff.1 ho).1
        obtain rfl | rfl | rfl | rfl | rfl | rfl | rfl : i = 0 ∨ i = 1 ∨ i = 2 ∨ i = 3 ∨ i = 4 ∨ i = 5 ∨ i = 6 := by omega
        · obtain rfl := Option.some.inj ho
          have hL6 : L 6 = false := by
            cases e : L 6
            · rfl
            · exact absurd ((f6 e).1 0 (by decide)) (by rw [hL]; decide)
          have J := I0 hL6
          refine wpOp_step rfl (fun K' hK => ?_)
          go_simp
          refine hK _ _ ?_
          exact ⟨_, _, _, _, _, _, rfl, (fun _ => J), (fun _ => rfl), (kp f1), (kp f2), (kp f3), (fun h => by
            obtain ⟨v8, e22, x8, r8⟩ := f4 (upd_ne h (by decide))
            exact ⟨v8, e22, x8, fun h8 => r8 (by rw [upd_other (by decide)] at h8; exact h8)⟩), (fun h => absurd ((f5 (upd_ne h (by decide))).1 0 (by decide)) (by rw [hL]; decide)), (fun h => absurd hL6 (by rw [upd_ne h (by decide)]; decide))⟩
        · obtain rfl := Option.some.inj ho
          have g0 := f0 (hd ⟨0, .data⟩ (by simp) rfl)
          subst g0
          have hL6 : L 6 = false := by
            cases e : L 6
            · rfl
            · exact absurd ((f6 e).1 1 (by decide)) (by rw [hL]; decide)
          have J := I0 hL6
          have z0 : ww.cell? ⟨b, 0, none⟩ = some (.slice (some ⟨gc, 0, none⟩) n c5) := (J.cell (p := ⟨b, 0, none⟩) hbl).trans x0
          refine wpOp_step rfl (fun K' hK => ?_)
          go_simp
          refine hK _ _ ?_
          exact ⟨_, _, _, _, _, _, rfl, (fun _ => J), (kp f0), (fun _ => rfl), (kp f2), (kp f3), (fun h => by
            obtain ⟨v8, e22, x8, r8⟩ := f4 (upd_ne h (by decide))
            exact ⟨v8, e22, x8, fun h8 => r8 (by rw [upd_other (by decide)] at h8; exact h8)⟩), (fun h => absurd ((f5 (upd_ne h (by decide))).1 1 (by decide)) (by rw [hL]; decide)), (fun h => absurd hL6 (by rw [upd_ne h (by decide)]; decide))⟩
        · obtain rfl := Option.some.inj ho
          have hL6 : L 6 = false := by
            cases e : L 6
            · rfl
            · exact absurd ((f6 e).1 2 (by decide)) (by rw [hL]; decide)
          have J := I0 hL6
          refine wpOp_step rfl (fun K' hK => ?_)
          go_simp
          refine hK _ _ ?_
          exact ⟨_, _, _, _, _, _, rfl, (fun _ => J), (kp f0), (kp f1), (fun _ => rfl), (kp f3), (fun h => by
            obtain ⟨v8, e22, x8, r8⟩ := f4 (upd_ne h (by decide))
            exact ⟨v8, e22, x8, fun h8 => r8 (by rw [upd_other (by decide)] at h8; exact h8)⟩), (fun h => absurd ((f5 (upd_ne h (by decide))).1 2 (by decide)) (by rw [hL]; decide)), (fun h => absurd hL6 (by rw [upd_ne h (by decide)]; decide))⟩
        · obtain rfl := Option.some.inj ho
          have hL6 : L 6 = false := by
            cases e : L 6
            · rfl
            · exact absurd ((f6 e).1 3 (by decide)) (by rw [hL]; decide)
          have J := I0 hL6
          have z1 : ww.cell? ⟨qc, 0, none⟩ = some (.int .i64 op) := (J.cell (p := ⟨qc, 0, none⟩) hql).trans y0
          have z2 : ww.cell? ⟨qc, 1, none⟩ = some (.int .i64 oa) := (J.cell (p := ⟨qc, 1, none⟩) hql).trans y1
          have z3 : ww.cell? ⟨qc, 2, none⟩ = some (.int .i64 ob) := (J.cell (p := ⟨qc, 2, none⟩) hql).trans y2
          have z4 : ww.cell? ⟨qc, 3, none⟩ = some (.int .i64 oc) := (J.cell (p := ⟨qc, 3, none⟩) hql).trans y3
          refine wpOp_step rfl (fun K' hK => ?_)
          go_simp
          refine hK _ _ ?_
          exact ⟨_, _, _, _, _, _, rfl, (fun _ => J), (kp f0), (kp f1), (kp f2), (fun _ => rfl), (fun h => by
            obtain ⟨v8, e22, x8, r8⟩ := f4 (upd_ne h (by decide))
            exact ⟨v8, e22, x8, fun h8 => r8 (by rw [upd_other (by decide)] at h8; exact h8)⟩), (fun h => absurd ((f5 (upd_ne h (by decide))).1 3 (by decide)) (by rw [hL]; decide)), (fun h => absurd hL6 (by rw [upd_ne h (by decide)]; decide))⟩
        · obtain rfl := Option.some.inj ho
          have g3 := f3 (hd ⟨3, .data⟩ (by simp) rfl)
          subst g3
          have hL6 : L 6 = false := by
            cases e : L 6
            · rfl
            · exact absurd ((f6 e).1 4 (by decide)) (by rw [hL]; decide)
          have J := I0 hL6
          refine wpOp_step rfl (fun K' hK => ?_)
          go_simp
          refine (madeCell_any (by omega) ww).mono ?_
          rintro e w' ⟨v8, rfl, o1, b5⟩
          obtain ⟨A8, c8, e8, -⟩ := o1.form
          rw [List.length_replicate] at e8
          refine hK _ _ ?_
          exact ⟨_, _, _, _, _, _, rfl, (fun _ => J.trans (b5.mono J.size)), (kp f0), (kp f1), (kp f2), (kp f3), (fun _ => ⟨v8, rfl, ⟨A8, c8, e8⟩, fun _ => o1.base J.size⟩), (fun h => absurd ((f5 (upd_ne h (by decide))).1 4 (by decide)) (by rw [hL]; decide)), (fun h => absurd hL6 (by rw [upd_ne h (by decide)]; decide))⟩
        · obtain rfl := Option.some.inj ho
          have g1 := f1 (hd ⟨1, .data⟩ (by simp) rfl)
          have g2 := f2 (hd ⟨2, .data⟩ (by simp) rfl)
          subst g1
          subst g2
          have hL6 : L 6 = false := by
            cases e : L 6
            · rfl
            · exact absurd ((f6 e).1 5 (by decide)) (by rw [hL]; decide)
          have J := I0 hL6
          have lq : Hid (∀ q, q < 5 → L q = true) := Lib.hid (by
            intro q hq
            obtain rfl | rfl | rfl | rfl | rfl : q = 0 ∨ q = 1 ∨ q = 2 ∨ q = 3 ∨ q = 4 := by omega
            · exact hd ⟨0, .phase⟩ (by simp) rfl
            · exact hd ⟨1, .phase⟩ (by simp) rfl
            · exact hd ⟨2, .phase⟩ (by simp) rfl
            · exact hd ⟨3, .phase⟩ (by simp) rfl
            · exact hd ⟨4, .phase⟩ (by simp) rfl)
          refine wpOp_step rfl (fun K' hK => ?_)
          go_simp
          refine hK _ _ ?_
          exact ⟨_, _, _, _, _, _, rfl, (fun _ => J), (kp f0), (kp f1), (kp f2), (kp f3), (fun h => by
            obtain ⟨v8, e22, x8, r8⟩ := f4 (upd_ne h (by decide))
            exact ⟨v8, e22, x8, fun h8 => r8 (by rw [upd_other (by decide)] at h8; exact h8)⟩), (fun _ => ⟨fun q hq => upd_mono (lq.out q hq), rfl⟩), (fun h => absurd hL6 (by rw [upd_ne h (by decide)]; decide))⟩
        · obtain rfl := Option.some.inj ho
          have g4 := f4 (hd ⟨4, .data⟩ (by simp) rfl)
          have g5 := f5 (hd ⟨5, .data⟩ (by simp) rfl)
          have lq : Hid (∀ q, q < 6 → L q = true) := Lib.hid (by
            intro q hq
            obtain rfl | rfl | rfl | rfl | rfl | rfl : q = 0 ∨ q = 1 ∨ q = 2 ∨ q = 3 ∨ q = 4 ∨ q = 5 := by omega
            · exact hd ⟨0, .phase⟩ (by simp) rfl
            · exact hd ⟨1, .phase⟩ (by simp) rfl
            · exact hd ⟨2, .phase⟩ (by simp) rfl
            · exact hd ⟨3, .phase⟩ (by simp) rfl
            · exact hd ⟨4, .phase⟩ (by simp) rfl
            · exact hd ⟨5, .data⟩ (by simp) rfl)
          have J := I0 hL
          obtain ⟨-, e34⟩ := g5
          subst e34
          obtain ⟨v8, e33, ⟨A8, c8, e8⟩, r8⟩ := g4
          subst e33
          subst e8
          have o8 := r8 hL
          have S6 := SS.out.up J
          obtain ⟨old, hold⟩ : ∃ old, h.cs[gp]? = some old := ⟨_, List.getElem?_eq_getElem (by have := HLC.out; omega)⟩
          obtain ⟨gc9, v9, e9, -, -, -, -, zc0, zc1, zc2, fz⟩ := S6.own.cell_at hold
          have eg : gc = gc9 := by
            injection e9 with e9
            injection e9
          subst eg
          have zf0 := fz (gp * 3)
          have zf1 := fz (gp * 3 + 1)
          have zf2 := fz (gp * 3 + 2)
          clear fz hold
          refine wpOp_step rfl (fun K' hK => ?_)
          go_simp
          refine hK _ _ ?_
          exact ⟨_, _, _, _, _, _, rfl, (fun h => absurd h (by rw [upd_self]; decide)), (kp f0), (kp f1), (kp f2), (kp f3), (fun _ => ⟨_, rfl, ⟨A8, c8, rfl⟩, fun h => absurd h (by rw [upd_self]; decide)⟩), (fun _ => ⟨fun q hq => upd_mono (lq.out q (by omega)), rfl⟩), (fun _ => ⟨fun q hq => upd_mono (lq.out q hq), _, ww, ⟨A8, c8, rfl⟩, rfl, J, o8⟩)⟩
      case hdone =>
        rintro L ac ww hall ⟨t29, t30, t31, t32, t33, t34, rfl, I0, f0, f1, f2, f3, f4, f5, f6⟩
        have e0 := f0 (hall 0 (by decide))
        have e1 := f1 (hall 1 (by decide))
        have e2 := f2 (hall 2 (by decide))
        have e3 := f3 (hall 3 (by decide))
        have e4 := f4 (hall 4 (by decide))
        have e5 := f5 (hall 5 (by decide))
        have e6 := f6 (hall 6 (by decide))
        clear f0 f1 f2 f3 f4 f5 f6
        obtain ⟨-, v8, wp, ⟨A8, c8, rfl⟩, rfl, r1, r2⟩ := e6
        have SP := SS.out.up r1
        have QP := QQ.out.keep r1 hql
        obtain ⟨old, hold⟩ : ∃ old, h.cs[gp]? = some old := ⟨_, List.getElem?_eq_getElem (by have := HLC.out; omega)⟩
        have hap : ∀ v ∈ (Value.slice (some ⟨gc, 0, none⟩) n c5) :: (.slice (some ⟨gr, 0, none⟩) 4 d5) :: rvs, (Value.slice A8 ob c8).ownBlock = none ∨ (Value.slice A8 ob c8).ownBlock ≠ v.ownBlock := fun v hv => by
          cases e : (Value.slice A8 ob c8).ownBlock with
          | none => exact .inl rfl
          | some k =>
            right
            intro e'
            have a1 := (World.ownsRow.lt r2 k e).1
            have a2 := (SS.out.own.blocks hv e'.symm).2
            omega
        have h8b : (Value.slice A8 ob c8).ownBlock = none ∨ (Value.slice A8 ob c8).ownBlock ≠ some b := by
          cases e : (Value.slice A8 ob c8).ownBlock with
          | none => exact .inl rfl
          | some k =>
            right
            intro e'
            have a1 := (World.ownsRow.lt r2 k e).1
            have := Option.some.inj e'
            omega
        have SN := SP.cell (cl := ⟨true, oc, List.replicate ob (-1)⟩) HLC.out hold (r2.base (by have := SS.out.low.size; omega)) hap h8b
        have hqg : qc ≠ gc := fun e => by
          have a1 : w3.heap.size ≤ gc := (SS.out.own.blocks (v := .slice (some ⟨gc, 0, none⟩) n c5) (by simp) rfl).1
          have a2 := HQC.out
          omega
        have QN := ((QP.other hqg (i := gp * 3) (.bool true)).other hqg (i := gp * 3 + 1) (.int .i64 oc)).other hqg (i := gp * 3 + 2) (.slice A8 ob c8)
        clear I0 e0 e1 e2 e3 e4 e5 hall r1 r2 SP QP hap h8b hold x0 y0 y1 y2 y3
        generalize ((wp.setCell ⟨gc, gp * 3, none⟩ (.bool true)).setCell ⟨gc, gp * 3 + 1, none⟩ (.int .i64 oc)).setCell ⟨gc, gp * 3 + 2, none⟩ (.slice A8 ob c8) = w7 at SN QN ⊢
        have x1 : w7.cell? ⟨b, 1, none⟩ = some (.slice (some ⟨gr, 0, none⟩) 4 d5) := SN.box.cell 1
        have y1 : w7.cell? ⟨qc, 1, none⟩ = some (.int .i64 oa) := QN.cell 1
        have haM : (oa : Int) < 4 := by omega
        obtain ⟨xo, hxo, cr⟩ := SN.own.roots.cell_at (j := oa) (by omega)
        have fz : w7.frozen? ⟨gr, oa, none⟩ = false := SN.own.roots.frozen HR4.out oa
        have SR := SN.root (i := oa) HR4.out (gp : Int)
        have SRH := Lib.hid SR
        clear SN QN QQ SS
        go_upto_region 7 with fail
        have hq := HQC.out
        subst hq
        generalize w7.setCell ⟨gr, oa, none⟩ (.int .i64 (gp : Int)) = w8 at SR SRH ⊢
        have b9 : Below w.heap.size w w8 := B2K.out.trans (SR.low.mono B2K.out.size)
        have q3 := Q3K.out.keep SR.low hsz3
        have v0 : w8.cell? ⟨b, 0, none⟩ = some (.slice (some ⟨gc, 0, none⟩) n c5) := SR.box.cell 0
        have v1 : w8.cell? ⟨b, 1, none⟩ = some (.slice (some ⟨gr, 0, none⟩) 4 d5) := SR.box.cell 1
        have r2 : (w8).frozen? ⟨w.heap.size + 1 + 1, 0, none⟩ = false := q3.frozen 0
        have r3 : (w8).frozen? ⟨w.heap.size + 1 + 1, 1, none⟩ = false := q3.frozen 1
        have r4 : (w8).cell? ⟨w.heap.size + 1 + 1, 0, none⟩ = some (.slice none 0 0) := q3.cell 0
        have r5 : (w8).cell? ⟨w.heap.size + 1 + 1, 1, none⟩ = some (.slice none 0 0) := q3.cell 1
        have r6 : (((w8).setCell ⟨w.heap.size + 1 + 1, 0, none⟩ (.slice (some ⟨gc, 0, none⟩) n c5)).setCell ⟨w.heap.size + 1 + 1, 1, none⟩ (.slice (some ⟨gr, 0, none⟩) 4 d5)).cell? ⟨w.heap.size + 1 + 1, 0, none⟩ = some (.slice (some ⟨gc, 0, none⟩) n c5) := ((q3.put 0 (.slice (some ⟨gc, 0, none⟩) n c5)).put 1 (.slice (some ⟨gr, 0, none⟩) 4 d5)).cell 0
        have r7 : (((w8).setCell ⟨w.heap.size + 1 + 1, 0, none⟩ (.slice (some ⟨gc, 0, none⟩) n c5)).setCell ⟨w.heap.size + 1 + 1, 1, none⟩ (.slice (some ⟨gr, 0, none⟩) 4 d5)).cell? ⟨w.heap.size + 1 + 1, 1, none⟩ = some (.slice (some ⟨gr, 0, none⟩) 4 d5) := ((q3.put 0 (.slice (some ⟨gc, 0, none⟩) n c5)).put 1 (.slice (some ⟨gr, 0, none⟩) 4 d5)).cell 1
        have D := Lib.hid (OwnH.out (w := w) (g := w.heap.size + 1 + 1) (SR.ownH) (by omega) (b9) (by omega))
        have E1 := Lib.hid (show (Hps.reuH h ⟨op, oa, ob, oc⟩).1 = ⟨h.cs.set gp ⟨true, oc, List.replicate ob (-1)⟩, h.rt.set oa (gp : Int)⟩ by rw [HF.out, HGP.out]; rfl)
        have E2 := Lib.hid (show (Hps.reuH h ⟨op, oa, ob, oc⟩).2 = true by rw [HF.out])
        clear q3 b9 SR SRH
        go_wp2_with fail
        exact bodyPost_ret (v := .tuple #[.agg #[.slice (some ⟨gc, 0, none⟩) n c5, .slice (some ⟨gr, 0, none⟩) 4 d5], .bool true]) (by simp [results, Tryd.results59, go_sem, *]) rfl ⟨_, _, by rw [E2.out], by rw [E1.out]; exact D.out.1, D.out.2⟩
  · have hne : (op != 1) = true := by simp [h1]
    have HF := Lib.hid (Hps.reuH_step HV.out HO.out (.inl h1))
    clear h1
    go_wp2_with fail
    refine (stepHeap_any _ _ _ _ _ _ h ⟨op, oa, ob, oc⟩ _ s2 (by omega) (by have := HR4.out; omega) hc hd).mono ?_
    rw [HF.out]
    rintro e w5 ⟨vc, vr, rfl, ow, b5⟩
    obtain ⟨A5, n5, c5, R5, m5, d5, rfl, rfl⟩ := ow.slices
    have b9 := b2.trans (b5.mono b2.size)
    replace q3 := q3.keep b5 q3.lt
    clear q1 q2 b2 b5 x0 x1 y0 y1 y2 y3 s2
    have r2 : (w5).frozen? ⟨w.heap.size + 1 + 1, 0, none⟩ = false := q3.frozen 0
    have r3 : (w5).frozen? ⟨w.heap.size + 1 + 1, 1, none⟩ = false := q3.frozen 1
    have r4 : (w5).cell? ⟨w.heap.size + 1 + 1, 0, none⟩ = some (.slice none 0 0) := q3.cell 0
    have r5 : (w5).cell? ⟨w.heap.size + 1 + 1, 1, none⟩ = some (.slice none 0 0) := q3.cell 1
    have r6 : (((w5).setCell ⟨w.heap.size + 1 + 1, 0, none⟩ (.slice A5 n5 c5)).setCell ⟨w.heap.size + 1 + 1, 1, none⟩ (.slice R5 m5 d5)).cell? ⟨w.heap.size + 1 + 1, 0, none⟩ = some (.slice A5 n5 c5) := ((q3.put 0 (.slice A5 n5 c5)).put 1 (.slice R5 m5 d5)).cell 0
    have r7 : (((w5).setCell ⟨w.heap.size + 1 + 1, 0, none⟩ (.slice A5 n5 c5)).setCell ⟨w.heap.size + 1 + 1, 1, none⟩ (.slice R5 m5 d5)).cell? ⟨w.heap.size + 1 + 1, 1, none⟩ = some (.slice R5 m5 d5) := ((q3.put 0 (.slice A5 n5 c5)).put 1 (.slice R5 m5 d5)).cell 1
    have D := Lib.hid (OwnH.out (w := w) (g := w.heap.size + 1 + 1) (ow) (by omega) (b9) (by omega))
    clear q3 b9 ow
    generalize (Hps.reuH h ⟨op, oa, ob, oc⟩).2 = ok at *
    go_wp2_with fail
    exact bodyPost_ret (v := .tuple #[.agg #[.slice A5 n5 c5, .slice R5 m5 d5], .bool ok]) (by simp [results, Tryd.results59, go_sem, *]) rfl ⟨_, _, rfl, D.out.1, D.out.2⟩
end Go.Proofs.YtfgdenmlfloloaaDoor

namespace Go.Proofs.YtfgdenmlfloloaaDoor
open Go.RowKit
set_option maxRecDepth 100000
theorem equalI_any (A B : Option Addr) (n m c d : Nat) (xs ys : List Int) (w : World) (h : IS w w.heap.size A n xs) (h' : IS w w.heap.size B m ys) (hn : n ≤ 1099511627776) (hm : m ≤ 1099511627776) :
    Calls Tryd.prog 74 #[.slice A n c, .slice B m d] w fun e w' => e = .returned (.bool (decide (xs = ys))) ∧ Below w.heap.size w w' := by
  have HL := Lib.hid h.1
  have HL' := Lib.hid h'.1
  by_cases hnm : n = m
  · subst hnm
    go_enter Tryd.func74, Tryd.ntmps74
    go_wp2
    go_loopw [13] (fun i wr => ∃ (k : Nat), k ≤ n ∧ i = .int .i64 k ∧ Hid (xs.take k = ys.take k) ∧ Below w.heap.size w wr) (fun i _ => n - (intOf i).toNat)
    case atStart => exact ⟨0, Nat.zero_le _, rfl, by simp [Hid], Below.refl _ _⟩
    case round =>
      obtain ⟨k, hk, rfl, hpre, hb⟩ := hrel
      by_cases hlt : k < n
      · obtain ⟨g, o, x, rfl, hg, hx, c1⟩ := (h.below hb).at_ hlt
        obtain ⟨g', o', y, rfl, hg', hx', c1'⟩ := (h'.below hb).at_ hlt
        have HX := Lib.hid hx
        have HX' := Lib.hid hx'
        have hlt' : (k : Int) < n := by omega
        clear hx hx'
        by_cases hxy : x = y
        · subst hxy
          go_wp2_with fail
          go_quiet (fail)
          go_wp2
          go_roundw
          case rel => exact ⟨k + 1, by omega, by go_num, Lib.hid (take_eq_succI hpre.out HX.out HX'.out), below_drewN hb _⟩
          case measure => simp [intOf]; omega
        · have hne : (x == y) = false := by rw [beq_eq_false_iff_ne]; exact hxy
          have hne2 : (x != y) = true := by rw [bne_iff_ne]; exact hxy
          have HNE := Lib.hid (show xs ≠ ys from fun e => hxy (by
            have a := HX.out
            have b := HX'.out
            rw [e, b] at a
            exact (Option.some.inj a).symm))
          clear hxy
          go_wp2_with fail
          go_quiet (fail)
          go_wp2
          go_ret
          exact ⟨ret_bool (decide_eq_false HNE.out).symm, below_drewN hb _⟩
      · have hkn : k = n := by omega
        have HK := Lib.hid hkn
        clear hkn
        go_wp2
        go_ret
        refine ⟨ret_bool ?_, hb⟩
        have hp := hpre.out
        rw [HK.out, List.take_of_length_le (by rw [HL.out]; omega), List.take_of_length_le (by rw [HL'.out]; omega)] at hp
        simp [hp]
  · have hne : ((n : Int) != m) = true := by rw [bne_iff_ne]; omega
    have HN := Lib.hid hnm
    clear hnm
    go_enter Tryd.func74, Tryd.ntmps74
    go_wp2
    go_ret
    refine ⟨ret_bool ?_, Below.refl _ _⟩
    simp
    rintro rfl
    exact HN.out (HL.out.symm.trans HL'.out)
end Go.Proofs.YtfgdenmlfloloaaDoor

namespace Go.Proofs.YtfgdenmlfloloaaDoor
open Go.RowKit
set_option maxRecDepth 100000
set_option maxHeartbeats 4000000 in
theorem countedValid_any (A R K : Option Addr) (n c m d p q : Nat) (h : Hp) (l : List Int) (w : World) (hs : HS w w.heap.size A n R m h) (hk : IS w w.heap.size K p l) (hn : n ≤ 1099511627776) (hm : m ≤ 1099511627776) (hp : p ≤ 1099511627776) (hnc : n ≤ c) (hmd : m ≤ d) :
    Calls Tryd.prog 20 #[ctV A n c R m d K p q] w fun e w' => e = .returned (.bool (Hps.okCt h l)) ∧ Below w.heap.size w w' := by
  have b0 : Below w.heap.size w (w.alloc (.cells #[.slice A n c, .slice R m d, .slice K p q] 34)) := (Below.refl _ _).alloc (Nat.le_refl _) _
  have r0 := hs.up b0
  have k0 := hk.up b0
  have Q0 := Rw.new w 34 #[.slice A n c, .slice R m d, .slice K p q]
  obtain ⟨v, hv⟩ : ∃ v, Hps.validH h = v := ⟨_, rfl⟩
  have HOK := Lib.hid (show Hps.okCt h l = (v && decide (l = Hps.countsH h)) by
    rw [Hps.okCt_eq, hv]
    congr 1
    exact decide_eq_decide.2 ⟨fun e => e.symm, fun e => e.symm⟩)
  have HV := Lib.hid hv
  have HL := Hps.countsH_len h
  rw [hs.cells.1] at HL
  clear hv
  go_enter Tryd.func20, Tryd.ntmps20
  go_upto_region 1 with fail
  generalize w.alloc (.cells #[.slice A n c, .slice R m d, .slice K p q] 34) = w2 at b0 r0 k0 Q0 ⊢
  generalize hbq : w.heap.size = b at Q0 ⊢
  have HB := Lib.hid hbq
  clear hbq
  have hbl := Q0.lt
  have x0 : w2.cell? ⟨b, 0, none⟩ = some (.slice A n c) := Q0.cell 0
  have x1 : w2.cell? ⟨b, 1, none⟩ = some (.slice R m d) := Q0.cell 1
  have x2 : w2.cell? ⟨b, 2, none⟩ = some (.slice K p q) := Q0.cell 2
  cases v
  · skip
    refine wp_region_inv (by kernel_rfl) (by kernel_rfl) (fun L ac ww => ∃ t2 t3 t4 t5 t6 t7 t8 t9 t10 t11 t12 t13 : Value, ac = { tmps := #[ctV A n c R m d K p q, Value.pointer (some { block := b, off := 0 }), t2, t3, t4, t5, t6, t7, t8, t9, t10, t11, t12, t13], defers := [] } ∧ (Below w2.heap.size w2 ww) ∧ (L 0 = true → t3 = .pointer (some ⟨b, 0, none⟩)) ∧ (L 1 = true → t4 = .agg #[.slice A n c, .slice R m d]) ∧ (L 2 = true → t5 = .bool false) ∧ (L 3 = true → t6 = .bool false) ∧ (L 4 = true → True) ∧ (L 5 = true → True) ∧ (L 6 = true → True) ∧ (L 7 = true → True) ∧ (L 8 = true → True) ∧ (L 9 = true → True) ∧ (L 10 = true → t13 = .bool false) ∧ (L 11 = true → t2 = .bool false)) ?h0 ?hstep ?hdone
    case h0 => exact ⟨_, _, _, _, _, _, _, _, _, _, _, _, rfl, (Below.refl _ _).drew, (fun h => absurd h Bool.false_ne_true), (fun h => absurd h Bool.false_ne_true), (fun h => absurd h Bool.false_ne_true), (fun h => absurd h Bool.false_ne_true), (fun h => absurd h Bool.false_ne_true), (fun h => absurd h Bool.false_ne_true), (fun h => absurd h Bool.false_ne_true), (fun h => absurd h Bool.false_ne_true), (fun h => absurd h Bool.false_ne_true), (fun h => absurd h Bool.false_ne_true), (fun h => absurd h Bool.false_ne_true), (fun h => absurd h Bool.false_ne_true)⟩
    case hstep =>
      rintro L ac ww i o ho hL hd ⟨t2, t3, t4, t5, t6, t7, t8, t9, t10, t11, t12, t13, rfl, I0, f0, f1, f2, f3, f4, f5, f6, f7, f8, f9, f10, f11⟩
      have hi : i < 12 := (Array.getElem?_eq_some_iff.1 ho).1
      obtain rfl | rfl | rfl | rfl | rfl | rfl | rfl | rfl | rfl | rfl | rfl | rfl : i = 0 ∨ i = 1 ∨ i = 2 ∨ i = 3 ∨ i = 4 ∨ i = 5 ∨ i = 6 ∨ i = 7 ∨ i = 8 ∨ i = 9 ∨ i = 10 ∨ i = 11 := by omega
      · obtain rfl := Option.some.inj ho
        refine wpOp_step rfl (fun K' hK => ?_)
        go_simp
        refine hK _ _ ?_
        exact ⟨_, _, _, _, _, _, _, _, _, _, _, _, rfl, (I0), (fun _ => rfl), (kp f1), (kp f2), (kp f3), (fun _ => trivial), (fun _ => trivial), (fun _ => trivial), (fun _ => trivial), (fun _ => trivial), (fun _ => trivial), (kp f10), (kp f11)⟩
      · obtain rfl := Option.some.inj ho
        have g0 := f0 (hd ⟨0, .data⟩ (by simp) rfl)
        subst g0
        have z0 : ww.cell? ⟨b, 0, none⟩ = some (.slice A n c) := (I0.cell (p := ⟨b, 0, none⟩) hbl).trans x0
        have z1 : ww.cell? ⟨b, 1, none⟩ = some (.slice R m d) := (I0.cell (p := ⟨b, 1, none⟩) hbl).trans x1
        have z2 : ww.cell? ⟨b, 2, none⟩ = some (.slice K p q) := (I0.cell (p := ⟨b, 2, none⟩) hbl).trans x2
        refine wpOp_step rfl (fun K' hK => ?_)
        go_simp
        refine hK _ _ ?_
        exact ⟨_, _, _, _, _, _, _, _, _, _, _, _, rfl, (I0), (kp f0), (fun _ => rfl), (kp f2), (kp f3), (fun _ => trivial), (fun _ => trivial), (fun _ => trivial), (fun _ => trivial), (fun _ => trivial), (fun _ => trivial), (kp f10), (kp f11)⟩
      · obtain rfl := Option.some.inj ho
        have g1 := f1 (hd ⟨1, .data⟩ (by simp) rfl)
        subst g1
        refine wpOp_step rfl (fun K' hK => ?_)
        go_simp
        refine (heapValid_any _ _ _ _ _ _ h ww (r0.up I0) hn hm hnc hmd).mono ?_
        rw [HV.out]
        rintro e w' ⟨rfl, b5⟩
        refine hK _ _ ?_
        exact ⟨_, _, _, _, _, _, _, _, _, _, _, _, rfl, (I0.trans (b5.mono I0.size)), (kp f0), (kp f1), (fun _ => rfl), (kp f3), (fun _ => trivial), (fun _ => trivial), (fun _ => trivial), (fun _ => trivial), (fun _ => trivial), (fun _ => trivial), (kp f10), (kp f11)⟩
      · obtain rfl := Option.some.inj ho
        have g2 := f2 (hd ⟨2, .data⟩ (by simp) rfl)
        subst g2
        refine wpOp_step rfl (fun K' hK => ?_)
        go_simp
        refine hK _ _ ?_
        exact ⟨_, _, _, _, _, _, _, _, _, _, _, _, rfl, (I0), (kp f0), (kp f1), (kp f2), (fun _ => rfl), (fun _ => trivial), (fun _ => trivial), (fun _ => trivial), (fun _ => trivial), (fun _ => trivial), (fun _ => trivial), (kp f10), (kp f11)⟩
      · obtain rfl := Option.some.inj ho
        have g3 := f3 (hd ⟨3, .guard⟩ (by simp) rfl)
        subst g3
        refine wpOp_step rfl (fun K' hK => ?_)
        go_simp
        refine hK _ _ ?_
        exact ⟨_, _, _, _, _, _, _, _, _, _, _, _, rfl, (I0), (kp f0), (kp f1), (kp f2), (kp f3), (fun _ => trivial), (fun _ => trivial), (fun _ => trivial), (fun _ => trivial), (fun _ => trivial), (fun _ => trivial), (kp f10), (kp f11)⟩
      · obtain rfl := Option.some.inj ho
        have g3 := f3 (hd ⟨3, .guard⟩ (by simp) rfl)
        subst g3
        refine wpOp_step rfl (fun K' hK => ?_)
        go_simp
        refine hK _ _ ?_
        exact ⟨_, _, _, _, _, _, _, _, _, _, _, _, rfl, (I0), (kp f0), (kp f1), (kp f2), (kp f3), (fun _ => trivial), (fun _ => trivial), (fun _ => trivial), (fun _ => trivial), (fun _ => trivial), (fun _ => trivial), (kp f10), (kp f11)⟩
      · obtain rfl := Option.some.inj ho
        have g3 := f3 (hd ⟨3, .guard⟩ (by simp) rfl)
        subst g3
        refine wpOp_step rfl (fun K' hK => ?_)
        go_simp
        refine hK _ _ ?_
        exact ⟨_, _, _, _, _, _, _, _, _, _, _, _, rfl, (I0), (kp f0), (kp f1), (kp f2), (kp f3), (fun _ => trivial), (fun _ => trivial), (fun _ => trivial), (fun _ => trivial), (fun _ => trivial), (fun _ => trivial), (kp f10), (kp f11)⟩
      · obtain rfl := Option.some.inj ho
        have g3 := f3 (hd ⟨3, .guard⟩ (by simp) rfl)
        subst g3
        refine wpOp_step rfl (fun K' hK => ?_)
        go_simp
        refine hK _ _ ?_
        exact ⟨_, _, _, _, _, _, _, _, _, _, _, _, rfl, (I0), (kp f0), (kp f1), (kp f2), (kp f3), (fun _ => trivial), (fun _ => trivial), (fun _ => trivial), (fun _ => trivial), (fun _ => trivial), (fun _ => trivial), (kp f10), (kp f11)⟩
      · obtain rfl := Option.some.inj ho
        have g3 := f3 (hd ⟨3, .guard⟩ (by simp) rfl)
        subst g3
        refine wpOp_step rfl (fun K' hK => ?_)
        go_simp
        refine hK _ _ ?_
        exact ⟨_, _, _, _, _, _, _, _, _, _, _, _, rfl, (I0), (kp f0), (kp f1), (kp f2), (kp f3), (fun _ => trivial), (fun _ => trivial), (fun _ => trivial), (fun _ => trivial), (fun _ => trivial), (fun _ => trivial), (kp f10), (kp f11)⟩
      · obtain rfl := Option.some.inj ho
        have g3 := f3 (hd ⟨3, .guard⟩ (by simp) rfl)
        subst g3
        refine wpOp_step rfl (fun K' hK => ?_)
        go_simp
        refine hK _ _ ?_
        exact ⟨_, _, _, _, _, _, _, _, _, _, _, _, rfl, (I0), (kp f0), (kp f1), (kp f2), (kp f3), (fun _ => trivial), (fun _ => trivial), (fun _ => trivial), (fun _ => trivial), (fun _ => trivial), (fun _ => trivial), (kp f10), (kp f11)⟩
      · obtain rfl := Option.some.inj ho
        have g3 := f3 (hd ⟨3, .data⟩ (by simp) rfl)
        subst g3
        refine wpOp_step rfl (fun K' hK => ?_)
        go_simp
        refine hK _ _ ?_
        exact ⟨_, _, _, _, _, _, _, _, _, _, _, _, rfl, (I0), (kp f0), (kp f1), (kp f2), (kp f3), (fun _ => trivial), (fun _ => trivial), (fun _ => trivial), (fun _ => trivial), (fun _ => trivial), (fun _ => trivial), (fun _ => rfl), (kp f11)⟩
      · obtain rfl := Option.some.inj ho
        have g10 := f10 (hd ⟨10, .data⟩ (by simp) rfl)
        subst g10
        refine wpOp_step rfl (fun K' hK => ?_)
        go_simp
        refine hK _ _ ?_
        exact ⟨_, _, _, _, _, _, _, _, _, _, _, _, rfl, (I0), (kp f0), (kp f1), (kp f2), (kp f3), (fun _ => trivial), (fun _ => trivial), (fun _ => trivial), (fun _ => trivial), (fun _ => trivial), (fun _ => trivial), (kp f10), (fun _ => rfl)⟩
    case hdone =>
      rintro L ac ww hall ⟨t2, t3, t4, t5, t6, t7, t8, t9, t10, t11, t12, t13, rfl, I0, f0, f1, f2, f3, f4, f5, f6, f7, f8, f9, f10, f11⟩
      have e0 := f0 (hall 0 (by decide))
      have e1 := f1 (hall 1 (by decide))
      have e2 := f2 (hall 2 (by decide))
      have e3 := f3 (hall 3 (by decide))
      have e4 := f4 (hall 4 (by decide))
      have e5 := f5 (hall 5 (by decide))
      have e6 := f6 (hall 6 (by decide))
      have e7 := f7 (hall 7 (by decide))
      have e8 := f8 (hall 8 (by decide))
      have e9 := f9 (hall 9 (by decide))
      have e10 := f10 (hall 10 (by decide))
      have e11 := f11 (hall 11 (by decide))
      clear f0 f1 f2 f3 f4 f5 f6 f7 f8 f9 f10 f11
      subst e11
      have bbf := b0.trans (I0.mono b0.size)
      clear I0 e0 e1 e2 e3 e4 e5 e6 e7 e8 e9 e10 hall x0 x1 x2 Q0 r0 k0
      go_wp2_with fail
      go_ret
      exact ⟨by rw [HOK.out]; simp, by have := HB.out; subst this; exact bbf⟩
  · skip
    refine wp_region_inv (by kernel_rfl) (by kernel_rfl) (fun L ac ww => ∃ t2 t3 t4 t5 t6 t7 t8 t9 t10 t11 t12 t13 : Value, ac = { tmps := #[ctV A n c R m d K p q, Value.pointer (some { block := b, off := 0 }), t2, t3, t4, t5, t6, t7, t8, t9, t10, t11, t12, t13], defers := [] } ∧ (Below w2.heap.size w2 ww) ∧ (L 0 = true → t3 = .pointer (some ⟨b, 0, none⟩)) ∧ (L 1 = true → t4 = .agg #[.slice A n c, .slice R m d]) ∧ (L 2 = true → t5 = .bool true) ∧ (L 3 = true → t6 = .bool true) ∧ (L 4 = true → t7 = .pointer (some ⟨b, 2, none⟩)) ∧ (L 5 = true → t8 = .slice K p q) ∧ (L 6 = true → t9 = .pointer (some ⟨b, 0, none⟩)) ∧ (L 7 = true → t10 = .agg #[.slice A n c, .slice R m d]) ∧ (L 8 = true → ∃ A5 n5 c5, t11 = .slice A5 n5 c5 ∧ n5 ≤ 1099511627776 ∧ IS ww ww.heap.size A5 n5 (Hps.countsH h)) ∧ (L 9 = true → t12 = .bool (decide (l = Hps.countsH h))) ∧ (L 10 = true → t13 = .bool (decide (l = Hps.countsH h))) ∧ (L 11 = true → t2 = .bool (decide (l = Hps.countsH h)))) ?h0 ?hstep ?hdone
    case h0 => exact ⟨_, _, _, _, _, _, _, _, _, _, _, _, rfl, (Below.refl _ _).drew, (fun h => absurd h Bool.false_ne_true), (fun h => absurd h Bool.false_ne_true), (fun h => absurd h Bool.false_ne_true), (fun h => absurd h Bool.false_ne_true), (fun h => absurd h Bool.false_ne_true), (fun h => absurd h Bool.false_ne_true), (fun h => absurd h Bool.false_ne_true), (fun h => absurd h Bool.false_ne_true), (fun h => absurd h Bool.false_ne_true), (fun h => absurd h Bool.false_ne_true), (fun h => absurd h Bool.false_ne_true), (fun h => absurd h Bool.false_ne_true)⟩
    case hstep =>
      rintro L ac ww i o ho hL hd ⟨t2, t3, t4, t5, t6, t7, t8, t9, t10, t11, t12, t13, rfl, I0, f0, f1, f2, f3, f4, f5, f6, f7, f8, f9, f10, f11⟩
      have hi : i < 12 := (Array.getElem?_eq_some_iff.1 ho).1
      obtain rfl | rfl | rfl | rfl | rfl | rfl | rfl | rfl | rfl | rfl | rfl | rfl : i = 0 ∨ i = 1 ∨ i = 2 ∨ i = 3 ∨ i = 4 ∨ i = 5 ∨ i = 6 ∨ i = 7 ∨ i = 8 ∨ i = 9 ∨ i = 10 ∨ i = 11 := by omega
      · obtain rfl := Option.some.inj ho
        refine wpOp_step rfl (fun K' hK => ?_)
        go_simp
        refine hK _ _ ?_
        exact ⟨_, _, _, _, _, _, _, _, _, _, _, _, rfl, (I0), (fun _ => rfl), (kp f1), (kp f2), (kp f3), (kp f4), (kp f5), (kp f6), (kp f7), (kp f8), (kp f9), (kp f10), (kp f11)⟩
      · obtain rfl := Option.some.inj ho
        have g0 := f0 (hd ⟨0, .data⟩ (by simp) rfl)
        subst g0
        have z0 : ww.cell? ⟨b, 0, none⟩ = some (.slice A n c) := (I0.cell (p := ⟨b, 0, none⟩) hbl).trans x0
        have z1 : ww.cell? ⟨b, 1, none⟩ = some (.slice R m d) := (I0.cell (p := ⟨b, 1, none⟩) hbl).trans x1
        have z2 : ww.cell? ⟨b, 2, none⟩ = some (.slice K p q) := (I0.cell (p := ⟨b, 2, none⟩) hbl).trans x2
        refine wpOp_step rfl (fun K' hK => ?_)
        go_simp
        refine hK _ _ ?_
        exact ⟨_, _, _, _, _, _, _, _, _, _, _, _, rfl, (I0), (kp f0), (fun _ => rfl), (kp f2), (kp f3), (kp f4), (kp f5), (kp f6), (kp f7), (kp f8), (kp f9), (kp f10), (kp f11)⟩
      · obtain rfl := Option.some.inj ho
        have g1 := f1 (hd ⟨1, .data⟩ (by simp) rfl)
        subst g1
        refine wpOp_step rfl (fun K' hK => ?_)
        go_simp
        refine (heapValid_any _ _ _ _ _ _ h ww (r0.up I0) hn hm hnc hmd).mono ?_
        rw [HV.out]
        rintro e w' ⟨rfl, b5⟩
        refine hK _ _ ?_
        exact ⟨_, _, _, _, _, _, _, _, _, _, _, _, rfl, (I0.trans (b5.mono I0.size)), (kp f0), (kp f1), (fun _ => rfl), (kp f3), (kp f4), (kp f5), (kp f6), (kp f7), (fun h => by
          obtain ⟨A5, n5, c5, e, hn5, hr9⟩ := f8 (upd_ne h (by decide))
          exact ⟨A5, n5, c5, e, hn5, hr9.up b5⟩), (kp f9), (kp f10), (kp f11)⟩
      · obtain rfl := Option.some.inj ho
        have g2 := f2 (hd ⟨2, .data⟩ (by simp) rfl)
        subst g2
        refine wpOp_step rfl (fun K' hK => ?_)
        go_simp
        refine hK _ _ ?_
        exact ⟨_, _, _, _, _, _, _, _, _, _, _, _, rfl, (I0), (kp f0), (kp f1), (kp f2), (fun _ => rfl), (kp f4), (kp f5), (kp f6), (kp f7), (kp f8), (kp f9), (kp f10), (kp f11)⟩
      · obtain rfl := Option.some.inj ho
        have g3 := f3 (hd ⟨3, .guard⟩ (by simp) rfl)
        subst g3
        refine wpOp_step rfl (fun K' hK => ?_)
        go_simp
        refine hK _ _ ?_
        exact ⟨_, _, _, _, _, _, _, _, _, _, _, _, rfl, (I0), (kp f0), (kp f1), (kp f2), (kp f3), (fun _ => rfl), (kp f5), (kp f6), (kp f7), (kp f8), (kp f9), (kp f10), (kp f11)⟩
      · obtain rfl := Option.some.inj ho
        have g4 := f4 (hd ⟨4, .data⟩ (by simp) rfl)
        subst g4
        have g3 := f3 (hd ⟨3, .guard⟩ (by simp) rfl)
        subst g3
        have z0 : ww.cell? ⟨b, 0, none⟩ = some (.slice A n c) := (I0.cell (p := ⟨b, 0, none⟩) hbl).trans x0
        have z1 : ww.cell? ⟨b, 1, none⟩ = some (.slice R m d) := (I0.cell (p := ⟨b, 1, none⟩) hbl).trans x1
        have z2 : ww.cell? ⟨b, 2, none⟩ = some (.slice K p q) := (I0.cell (p := ⟨b, 2, none⟩) hbl).trans x2
        refine wpOp_step rfl (fun K' hK => ?_)
        go_simp
        refine hK _ _ ?_
        exact ⟨_, _, _, _, _, _, _, _, _, _, _, _, rfl, (I0), (kp f0), (kp f1), (kp f2), (kp f3), (kp f4), (fun _ => rfl), (kp f6), (kp f7), (kp f8), (kp f9), (kp f10), (kp f11)⟩
      · obtain rfl := Option.some.inj ho
        have g3 := f3 (hd ⟨3, .guard⟩ (by simp) rfl)
        subst g3
        refine wpOp_step rfl (fun K' hK => ?_)
        go_simp
        refine hK _ _ ?_
        exact ⟨_, _, _, _, _, _, _, _, _, _, _, _, rfl, (I0), (kp f0), (kp f1), (kp f2), (kp f3), (kp f4), (kp f5), (fun _ => rfl), (kp f7), (kp f8), (kp f9), (kp f10), (kp f11)⟩
      · obtain rfl := Option.some.inj ho
        have g6 := f6 (hd ⟨6, .data⟩ (by simp) rfl)
        subst g6
        have g3 := f3 (hd ⟨3, .guard⟩ (by simp) rfl)
        subst g3
        have z0 : ww.cell? ⟨b, 0, none⟩ = some (.slice A n c) := (I0.cell (p := ⟨b, 0, none⟩) hbl).trans x0
        have z1 : ww.cell? ⟨b, 1, none⟩ = some (.slice R m d) := (I0.cell (p := ⟨b, 1, none⟩) hbl).trans x1
        have z2 : ww.cell? ⟨b, 2, none⟩ = some (.slice K p q) := (I0.cell (p := ⟨b, 2, none⟩) hbl).trans x2
        refine wpOp_step rfl (fun K' hK => ?_)
        go_simp
        refine hK _ _ ?_
        exact ⟨_, _, _, _, _, _, _, _, _, _, _, _, rfl, (I0), (kp f0), (kp f1), (kp f2), (kp f3), (kp f4), (kp f5), (kp f6), (fun _ => rfl), (kp f8), (kp f9), (kp f10), (kp f11)⟩
      · obtain rfl := Option.some.inj ho
        have g7 := f7 (hd ⟨7, .data⟩ (by simp) rfl)
        subst g7
        have g3 := f3 (hd ⟨3, .guard⟩ (by simp) rfl)
        subst g3
        refine wpOp_step rfl (fun K' hK => ?_)
        go_simp
        refine (refCounts_any _ _ _ _ _ _ h ww (r0.up I0) hn hm hnc hmd).mono ?_
        rintro e w' ⟨v1, rfl, ow, b5⟩
        obtain ⟨A5, c5, rfl, -⟩ := ow.form
        have hr9 := ow.reads
        refine hK _ _ ?_
        exact ⟨_, _, _, _, _, _, _, _, _, _, _, _, rfl, (I0.trans (b5.mono I0.size)), (kp f0), (kp f1), (kp f2), (kp f3), (kp f4), (kp f5), (kp f6), (kp f7), (fun _ => ⟨A5, _, c5, rfl, by omega, hr9⟩), (kp f9), (kp f10), (kp f11)⟩
      · obtain rfl := Option.some.inj ho
        have g5 := f5 (hd ⟨5, .data⟩ (by simp) rfl)
        have g8 := f8 (hd ⟨8, .data⟩ (by simp) rfl)
        subst g5
        have g3 := f3 (hd ⟨3, .guard⟩ (by simp) rfl)
        subst g3
        obtain ⟨A5, n5, c5, rfl, hn5, hr9⟩ := g8
        refine wpOp_step rfl (fun K' hK => ?_)
        go_simp
        refine (equalI_any _ _ _ _ _ _ l (Hps.countsH h) ww (k0.up I0) hr9 hp hn5).mono ?_
        rintro e w' ⟨rfl, b5⟩
        refine hK _ _ ?_
        exact ⟨_, _, _, _, _, _, _, _, _, _, _, _, rfl, (I0.trans (b5.mono I0.size)), (kp f0), (kp f1), (kp f2), (kp f3), (kp f4), (kp f5), (kp f6), (kp f7), (fun _ => ⟨A5, n5, c5, rfl, hn5, hr9.up b5⟩), (fun _ => rfl), (kp f10), (kp f11)⟩
      · obtain rfl := Option.some.inj ho
        have g3 := f3 (hd ⟨3, .data⟩ (by simp) rfl)
        have g9 := f9 (hd ⟨9, .data⟩ (by simp) rfl)
        subst g3
        subst g9
        refine wpOp_step rfl (fun K' hK => ?_)
        go_simp
        refine hK _ _ ?_
        exact ⟨_, _, _, _, _, _, _, _, _, _, _, _, rfl, (I0), (kp f0), (kp f1), (kp f2), (kp f3), (kp f4), (kp f5), (kp f6), (kp f7), (kp f8), (kp f9), (fun _ => rfl), (kp f11)⟩
      · obtain rfl := Option.some.inj ho
        have g10 := f10 (hd ⟨10, .data⟩ (by simp) rfl)
        subst g10
        refine wpOp_step rfl (fun K' hK => ?_)
        go_simp
        refine hK _ _ ?_
        exact ⟨_, _, _, _, _, _, _, _, _, _, _, _, rfl, (I0), (kp f0), (kp f1), (kp f2), (kp f3), (kp f4), (kp f5), (kp f6), (kp f7), (kp f8), (kp f9), (kp f10), (fun _ => rfl)⟩
    case hdone =>
      rintro L ac ww hall ⟨t2, t3, t4, t5, t6, t7, t8, t9, t10, t11, t12, t13, rfl, I0, f0, f1, f2, f3, f4, f5, f6, f7, f8, f9, f10, f11⟩
      have e0 := f0 (hall 0 (by decide))
      have e1 := f1 (hall 1 (by decide))
      have e2 := f2 (hall 2 (by decide))
      have e3 := f3 (hall 3 (by decide))
      have e4 := f4 (hall 4 (by decide))
      have e5 := f5 (hall 5 (by decide))
      have e6 := f6 (hall 6 (by decide))
      have e7 := f7 (hall 7 (by decide))
      have e8 := f8 (hall 8 (by decide))
      have e9 := f9 (hall 9 (by decide))
      have e10 := f10 (hall 10 (by decide))
      have e11 := f11 (hall 11 (by decide))
      clear f0 f1 f2 f3 f4 f5 f6 f7 f8 f9 f10 f11
      subst e11
      have bbf := b0.trans (I0.mono b0.size)
      clear I0 e0 e1 e2 e3 e4 e5 e6 e7 e8 e9 e10 hall x0 x1 x2 Q0 r0 k0
      go_wp2_with fail
      go_ret
      exact ⟨by rw [HOK.out]; simp, by have := HB.out; subst this; exact bbf⟩
end Go.Proofs.YtfgdenmlfloloaaDoor

namespace Go.Proofs.YtfgdenmlfloloaaDoor
open Go.RowKit
set_option maxRecDepth 100000
namespace Hps
theorem stepCt_reu {h : Hp} {l : List Int} {o : Cm} (h1 : okCt h l = true) (h2 : okCm o = true) : stepCt h l o = if (reuH h o).2 = true then ((freeH (reuH h o).1, countsL (freeH (reuH h o).1)), true) else (((reuH h o).1, l), false) := by
  rw [stepCt, if_pos (by rw [h1, h2]; rfl)]
  unfold reuH
  split <;> simp
theorem reuH_valid {h : Hp} {o : Cm} (hv : validH h = true) (hr : (reuH h o).2 = true) : validH (reuH h o).1 = true := by
  unfold reuH at hr ⊢
  split at hr
  · cases hr
  · next e =>
    rw [if_neg e]
    simp only [Bool.or_eq_true, Bool.not_eq_true', Bool.and_eq_true, decide_eq_true_eq, not_or, Bool.not_eq_false] at e
    exact doH_valid e.1 (gap_room hv e.2)
end Hps
set_option maxHeartbeats 4000000 in
theorem stepCounted_any (A R K : Option Addr) (n c m d p q : Nat) (h : Hp) (l : List Int) (o : Cm) (w : World) (hT : TzT w) (hs : HS w w.heap.size A n R m h) (hk : IS w w.heap.size K p l) (hn : n ≤ 1099511627776) (hm : m ≤ 1099511627776) (hp : p ≤ 1099511627776) (hnc : n ≤ c) (hmd : m ≤ d) :
    Calls Tryd.prog 16 #[ctV A n c R m d K p q, cmV o] w (GaveCt2 w (Hps.stepCt h l o).1.1 (Hps.stepCt h l o).1.2 (Hps.stepCt h l o).2) := by
  have b2 : Below w.heap.size w (((w.alloc (.cells #[.slice A n c, .slice R m d, .slice K p q] 34)).alloc (.cells #[.int .i64 o.op, .int .i64 o.a, .int .i64 o.b, .int .i64 o.c] 36)).alloc (.cells #[.slice none 0 0, .slice none 0 0, .slice none 0 0] 34)) := (((Below.refl w.heap.size w).alloc (Nat.le_refl _) _).alloc (by simp) _).alloc (by simp; omega) _
  have q1 := ((Rw.new w 34 #[.slice A n c, .slice R m d, .slice K p q]).alloc (.cells #[.int .i64 o.op, .int .i64 o.a, .int .i64 o.b, .int .i64 o.c] 36)).alloc (.cells #[.slice none 0 0, .slice none 0 0, .slice none 0 0] 34)
  have q2 := (Rw.new (w.alloc (.cells #[.slice A n c, .slice R m d, .slice K p q] 34)) 36 #[.int .i64 o.op, .int .i64 o.a, .int .i64 o.b, .int .i64 o.c]).alloc (.cells #[.slice none 0 0, .slice none 0 0, .slice none 0 0] 34)
  have q3 := Rw.new ((w.alloc (.cells #[.slice A n c, .slice R m d, .slice K p q] 34)).alloc (.cells #[.int .i64 o.op, .int .i64 o.a, .int .i64 o.b, .int .i64 o.c] 36)) 34 #[.slice none 0 0, .slice none 0 0, .slice none 0 0]
  simp only [World.size_alloc] at q2 q3
  have hT2 := hT.below b2
  have s2 := hs.up b2
  have k2 := hk.up b2
  go_enter Tryd.func16, Tryd.ntmps16
  go_upto_region 1 with fail
  generalize (((w.alloc (.cells #[.slice A n c, .slice R m d, .slice K p q] 34)).alloc (.cells #[.int .i64 o.op, .int .i64 o.a, .int .i64 o.b, .int .i64 o.c] 36)).alloc (.cells #[.slice none 0 0, .slice none 0 0, .slice none 0 0] 34)) = w2 at b2 q1 q2 q3 hT2 s2 k2 ⊢
  have x0 : w2.cell? ⟨w.heap.size, 0, none⟩ = some (.slice A n c) := q1.cell 0
  have x1 : w2.cell? ⟨w.heap.size, 1, none⟩ = some (.slice R m d) := q1.cell 1
  have x2 : w2.cell? ⟨w.heap.size, 2, none⟩ = some (.slice K p q) := q1.cell 2
  have y0 : w2.cell? ⟨w.heap.size + 1, 0, none⟩ = some (.int .i64 o.op) := q2.cell 0
  have y1 : w2.cell? ⟨w.heap.size + 1, 1, none⟩ = some (.int .i64 o.a) := q2.cell 1
  have y2 : w2.cell? ⟨w.heap.size + 1, 2, none⟩ = some (.int .i64 o.b) := q2.cell 2
  have y3 : w2.cell? ⟨w.heap.size + 1, 3, none⟩ = some (.int .i64 o.c) := q2.cell 3
  go_wp2_with fail
  refine (countedValid_any _ _ _ _ _ _ _ _ _ h l _ s2 k2 hn hm hp hnc hmd).mono ?_
  obtain ⟨r, hok⟩ : ∃ r, Hps.okCt h l = r := ⟨_, rfl⟩
  rw [hok]
  rintro e w3 ⟨rfl, b3⟩
  replace q1 := q1.keep b3 q1.lt
  replace q2 := q2.keep b3 q2.lt
  replace q3 := q3.keep b3 q3.lt
  replace hT2 := hT2.below b3
  replace s2 := s2.up b3
  replace k2 := k2.up b3
  replace b2 := b2.trans (b3.mono b2.size)
  clear x0 x1 x2 y0 y1 y2 y3 b3
  have x0 : w3.cell? ⟨w.heap.size, 0, none⟩ = some (.slice A n c) := q1.cell 0
  have x1 : w3.cell? ⟨w.heap.size, 1, none⟩ = some (.slice R m d) := q1.cell 1
  have x2 : w3.cell? ⟨w.heap.size, 2, none⟩ = some (.slice K p q) := q1.cell 2
  have y0 : w3.cell? ⟨w.heap.size + 1, 0, none⟩ = some (.int .i64 o.op) := q2.cell 0
  have y1 : w3.cell? ⟨w.heap.size + 1, 1, none⟩ = some (.int .i64 o.a) := q2.cell 1
  have y2 : w3.cell? ⟨w.heap.size + 1, 2, none⟩ = some (.int .i64 o.b) := q2.cell 2
  have y3 : w3.cell? ⟨w.heap.size + 1, 3, none⟩ = some (.int .i64 o.c) := q2.cell 3
  have hsz3 := q3.lt
  cases r
  · have HF := Lib.hid (Hps.stepCt_no (o := o) (.inl hok))
    clear hok hT2 s2 k2
    have r2 : (w3).frozen? ⟨w.heap.size + 1 + 1, 0, none⟩ = false := q3.frozen 0
    have r3 : (w3).frozen? ⟨w.heap.size + 1 + 1, 1, none⟩ = false := q3.frozen 1
    have r4 : (w3).frozen? ⟨w.heap.size + 1 + 1, 2, none⟩ = false := q3.frozen 2
    have r5 : (w3).cell? ⟨w.heap.size + 1 + 1, 0, none⟩ = some (.slice none 0 0) := q3.cell 0
    have r6 : (w3).cell? ⟨w.heap.size + 1 + 1, 1, none⟩ = some (.slice none 0 0) := q3.cell 1
    have r7 : (w3).cell? ⟨w.heap.size + 1 + 1, 2, none⟩ = some (.slice none 0 0) := q3.cell 2
    have q4 := ((q3.put 0 (.slice none 0 0)).put 1 (.slice none 0 0)).put 2 (.slice none 0 0)
    have r8 : ((((w3).setCell ⟨w.heap.size + 1 + 1, 0, none⟩ (.slice none 0 0)).setCell ⟨w.heap.size + 1 + 1, 1, none⟩ (.slice none 0 0)).setCell ⟨w.heap.size + 1 + 1, 2, none⟩ (.slice none 0 0)).cell? ⟨w.heap.size + 1 + 1, 0, none⟩ = some (.slice none 0 0) := q4.cell 0
    have r9 : ((((w3).setCell ⟨w.heap.size + 1 + 1, 0, none⟩ (.slice none 0 0)).setCell ⟨w.heap.size + 1 + 1, 1, none⟩ (.slice none 0 0)).setCell ⟨w.heap.size + 1 + 1, 2, none⟩ (.slice none 0 0)).cell? ⟨w.heap.size + 1 + 1, 1, none⟩ = some (.slice none 0 0) := q4.cell 1
    have r10 : ((((w3).setCell ⟨w.heap.size + 1 + 1, 0, none⟩ (.slice none 0 0)).setCell ⟨w.heap.size + 1 + 1, 1, none⟩ (.slice none 0 0)).setCell ⟨w.heap.size + 1 + 1, 2, none⟩ (.slice none 0 0)).cell? ⟨w.heap.size + 1 + 1, 2, none⟩ = some (.slice none 0 0) := q4.cell 2
    have D := Lib.hid (OwnC.out (w := w) (g := w.heap.size + 1 + 1) (own_zeroC w3 w3.heap.size (Nat.le_refl _)) (by omega) (b2) (by omega))
    clear q1 q2 q3 q4 b2 x0 x1 x2 y0 y1 y2 y3
    go_wp2_with fail
    exact bodyPost_ret (v := .tuple #[.agg #[.slice none 0 0, .slice none 0 0, .slice none 0 0], .bool false]) (by simp [results, Tryd.results16, go_sem, *]) rfl ⟨_, _, _, by rw [HF.out], by rw [HF.out]; exact D.out.1, D.out.2⟩
  have HOK := Lib.hid hok
  clear hok
  go_wp2_with fail
  refine (commandValid_any o _).mono ?_
  obtain ⟨r, ho⟩ : ∃ r, Hps.okCm o = r := ⟨_, rfl⟩
  rw [ho]
  rintro e w4 ⟨rfl, b4⟩
  replace q1 := q1.keep b4 q1.lt
  replace q2 := q2.keep b4 q2.lt
  replace q3 := q3.keep b4 q3.lt
  replace hT2 := hT2.below b4
  replace s2 := s2.up b4
  replace k2 := k2.up b4
  replace b2 := b2.trans (b4.mono b2.size)
  clear x0 x1 x2 y0 y1 y2 y3 b4 hsz3
  have x0 : w4.cell? ⟨w.heap.size, 0, none⟩ = some (.slice A n c) := q1.cell 0
  have x1 : w4.cell? ⟨w.heap.size, 1, none⟩ = some (.slice R m d) := q1.cell 1
  have x2 : w4.cell? ⟨w.heap.size, 2, none⟩ = some (.slice K p q) := q1.cell 2
  have y0 : w4.cell? ⟨w.heap.size + 1, 0, none⟩ = some (.int .i64 o.op) := q2.cell 0
  have y1 : w4.cell? ⟨w.heap.size + 1, 1, none⟩ = some (.int .i64 o.a) := q2.cell 1
  have y2 : w4.cell? ⟨w.heap.size + 1, 2, none⟩ = some (.int .i64 o.b) := q2.cell 2
  have y3 : w4.cell? ⟨w.heap.size + 1, 3, none⟩ = some (.int .i64 o.c) := q2.cell 3
  have hsz4 := q3.lt
  cases r
  · have HF := Lib.hid (Hps.stepCt_no (h := h) (l := l) (.inr ho))
    clear ho hT2 s2 k2
    have r2 : (w4).frozen? ⟨w.heap.size + 1 + 1, 0, none⟩ = false := q3.frozen 0
    have r3 : (w4).frozen? ⟨w.heap.size + 1 + 1, 1, none⟩ = false := q3.frozen 1
    have r4 : (w4).frozen? ⟨w.heap.size + 1 + 1, 2, none⟩ = false := q3.frozen 2
    have r5 : (w4).cell? ⟨w.heap.size + 1 + 1, 0, none⟩ = some (.slice none 0 0) := q3.cell 0
    have r6 : (w4).cell? ⟨w.heap.size + 1 + 1, 1, none⟩ = some (.slice none 0 0) := q3.cell 1
    have r7 : (w4).cell? ⟨w.heap.size + 1 + 1, 2, none⟩ = some (.slice none 0 0) := q3.cell 2
    have q4 := ((q3.put 0 (.slice none 0 0)).put 1 (.slice none 0 0)).put 2 (.slice none 0 0)
    have r8 : ((((w4).setCell ⟨w.heap.size + 1 + 1, 0, none⟩ (.slice none 0 0)).setCell ⟨w.heap.size + 1 + 1, 1, none⟩ (.slice none 0 0)).setCell ⟨w.heap.size + 1 + 1, 2, none⟩ (.slice none 0 0)).cell? ⟨w.heap.size + 1 + 1, 0, none⟩ = some (.slice none 0 0) := q4.cell 0
    have r9 : ((((w4).setCell ⟨w.heap.size + 1 + 1, 0, none⟩ (.slice none 0 0)).setCell ⟨w.heap.size + 1 + 1, 1, none⟩ (.slice none 0 0)).setCell ⟨w.heap.size + 1 + 1, 2, none⟩ (.slice none 0 0)).cell? ⟨w.heap.size + 1 + 1, 1, none⟩ = some (.slice none 0 0) := q4.cell 1
    have r10 : ((((w4).setCell ⟨w.heap.size + 1 + 1, 0, none⟩ (.slice none 0 0)).setCell ⟨w.heap.size + 1 + 1, 1, none⟩ (.slice none 0 0)).setCell ⟨w.heap.size + 1 + 1, 2, none⟩ (.slice none 0 0)).cell? ⟨w.heap.size + 1 + 1, 2, none⟩ = some (.slice none 0 0) := q4.cell 2
    have D := Lib.hid (OwnC.out (w := w) (g := w.heap.size + 1 + 1) (own_zeroC w4 w4.heap.size (Nat.le_refl _)) (by omega) (b2) (by omega))
    clear q1 q2 q3 q4 b2 x0 x1 x2 y0 y1 y2 y3
    go_wp2_with fail
    exact bodyPost_ret (v := .tuple #[.agg #[.slice none 0 0, .slice none 0 0, .slice none 0 0], .bool false]) (by simp [results, Tryd.results16, go_sem, *]) rfl ⟨_, _, _, by rw [HF.out], by rw [HF.out]; exact D.out.1, D.out.2⟩
  have HO := Lib.hid ho
  have HV := Lib.hid (Hps.okCt_iff.1 HOK.out).1
  have q3b := Lib.hid q3
  clear ho
  go_wp2_with fail
  refine (stepReusing_any _ _ _ _ _ _ h o _ hT2 s2 HV.out HO.out hnc hmd).mono ?_
  have HFB := Lib.hid (Hps.stepCt_reu HOK.out HO.out)
  have HRV := Lib.hid (fun hr => Hps.reuH_valid (h := h) (o := o) HV.out hr)
  obtain ⟨x, hx⟩ : ∃ x, (Hps.reuH h o).1 = x := ⟨_, rfl⟩
  obtain ⟨r, hr⟩ : ∃ r, (Hps.reuH h o).2 = r := ⟨_, rfl⟩
  rw [hx, hr] at HFB HRV ⊢
  clear hx hr
  rintro e w5 ⟨vc, vr, rfl, ow, b5⟩
  obtain ⟨A5, n5, c5, R5, m5, d5, rfl, rfl⟩ := ow.slices
  obtain ⟨rvs, S0⟩ := BoxSt.of ow b5
  replace q1 := (q1.keep b5 q1.lt).alloc (.cells #[.slice A5 n5 c5, .slice R5 m5 d5] 26)
  replace q3 := (q3.keep b5 q3.lt).alloc (.cells #[.slice A5 n5 c5, .slice R5 m5 d5] 26)
  replace k2 := (k2.up b5).up ((Below.refl _ _).alloc (Nat.le_refl _) (.cells #[.slice A5 n5 c5, .slice R5 m5 d5] 26))
  have b6 := (b2.trans (b5.mono b2.size)).alloc (Nat.le_trans b2.size b5.size) (.cells #[.slice A5 n5 c5, .slice R5 m5 d5] 26)
  have B2K := Lib.hid b2
  clear q2 x0 x1 x2 y0 y1 y2 y3 b5 ow hT2 s2 b2
  go_upto_region 4 with fail
  generalize w5.alloc (.cells #[.slice A5 n5 c5, .slice R5 m5 d5] 26) = w6 at S0 q1 q3 k2 b6 ⊢
  generalize w5.heap.size = b at S0 ⊢
  clear w5
  have v0 : w6.cell? ⟨b, 0, none⟩ = some (.slice A5 n5 c5) := S0.box.cell 0
  have v1 : w6.cell? ⟨b, 1, none⟩ = some (.slice R5 m5 d5) := S0.box.cell 1
  have x2 : w6.cell? ⟨w.heap.size, 2, none⟩ = some (.slice K p q) := q1.cell 2
  have hbl := S0.box.lt
  have hql := q1.lt
  have hrl := q3.lt
  have hw6 := b6.size
  cases r
  · have HF := Lib.hid (show Hps.stepCt h l o = ((x, l), false) from HFB.out)
    clear HFB HRV
    go_upto_region 5 with fail
    refine wp_region_inv (by kernel_rfl) (by kernel_rfl) (fun L ac ww => ∃ t5 t27 t28 t29 t30 t31 : Value, ac = { tmps := #[ctV A n c R m d K p q, cmV o, Value.pointer (some { block := w.heap.size, off := 0 }), Value.pointer (some { block := w.heap.size + 1, off := 0 }), Value.pointer (some { block := w.heap.size + 1 + 1, off := 0 }), t5, Value.pointer (some { block := b, off := 0 }), Value.bool false, undef, Value.agg #[Value.slice A n c, Value.slice R m d, Value.slice K p q], Value.bool true, Value.bool false, Value.bool false, Value.agg #[Value.int IntKind.i64 o.op, Value.int IntKind.i64 o.a, Value.int IntKind.i64 o.b, Value.int IntKind.i64 o.c], Value.bool true, Value.bool false, Value.bool false, undef, Value.tuple #[Value.agg #[Value.slice A5 n5 c5, Value.slice R5 m5 d5], Value.bool false], Value.pointer (some { block := w.heap.size, off := 0 }), Value.agg #[Value.slice A n c, Value.slice R m d], Value.agg #[Value.int IntKind.i64 o.op, Value.int IntKind.i64 o.a, Value.int IntKind.i64 o.b, Value.int IntKind.i64 o.c], Value.tuple #[Value.agg #[Value.slice A5 n5 c5, Value.slice R5 m5 d5], Value.bool false], Value.agg #[Value.slice A5 n5 c5, Value.slice R5 m5 d5], Value.bool false, Value.bool false, Value.bool true, t27, t28, t29, t30, t31, undef, undef, undef, undef], defers := [] } ∧ (L 5 = false → Below w6.heap.size w6 ww) ∧ (L 0 = true → t27 = .agg #[.slice A5 n5 c5, .slice R5 m5 d5]) ∧ (L 1 = true → t28 = .pointer (some ⟨w.heap.size, 2, none⟩)) ∧ (L 2 = true → t29 = .slice K p q) ∧ (L 3 = true → ∃ K5 p5 q5, t30 = .slice K5 p5 q5 ∧ (L 5 = false → OwnI ww w6.heap.size t30 l)) ∧ (L 4 = true → t31 = .agg #[.slice A5 n5 c5, .slice R5 m5 d5, t30] ∧ L 3 = true) ∧ (L 5 = true → (∀ q, q < 5 → L q = true) ∧ ∃ wp K5 p5 q5, t30 = .slice K5 p5 q5 ∧ ww = ((((wp).setCell ⟨w.heap.size + 1 + 1, 0, none⟩ (.slice A5 n5 c5)).setCell ⟨w.heap.size + 1 + 1, 1, none⟩ (.slice R5 m5 d5)).setCell ⟨w.heap.size + 1 + 1, 2, none⟩ (t30)) ∧ Below w6.heap.size w6 wp ∧ OwnI wp w6.heap.size t30 l) ∧ (L 6 = true → t5 = .bool false ∧ L 5 = true)) ?h0 ?hstep ?hdone
    case h0 => exact ⟨_, _, _, _, _, _, rfl, fun _ => (Below.refl _ _).drew, (fun h => absurd h Bool.false_ne_true), (fun h => absurd h Bool.false_ne_true), (fun h => absurd h Bool.false_ne_true), (fun h => absurd h Bool.false_ne_true), (fun h => absurd h Bool.false_ne_true), (fun h => absurd h Bool.false_ne_true), (fun h => absurd h Bool.false_ne_true)⟩
    case hstep =>
      rintro L ac ww i o ho hL hd ⟨t5, t27, t28, t29, t30, t31, rfl, I0, f0, f1, f2, f3, f4, f5, f6⟩
      have hi : i < 7 := (Array.getElem?_eq_some_iff.1 ho).1
      obtain rfl | rfl | rfl | rfl | rfl | rfl | rfl : i = 0 ∨ i = 1 ∨ i = 2 ∨ i = 3 ∨ i = 4 ∨ i = 5 ∨ i = 6 := by omega
      · obtain rfl := Option.some.inj ho
        have hL5 : L 5 = false := by
          cases e : L 5
          · rfl
          · exact absurd ((f5 e).1 0 (by decide)) (by rw [hL]; decide)
        have J := I0 hL5
        have z0 : ww.cell? ⟨b, 0, none⟩ = some (.slice A5 n5 c5) := (J.cell (p := ⟨b, 0, none⟩) hbl).trans v0
        have z1 : ww.cell? ⟨b, 1, none⟩ = some (.slice R5 m5 d5) := (J.cell (p := ⟨b, 1, none⟩) hbl).trans v1
        refine wpOp_step rfl (fun K' hK => ?_)
        go_simp
        refine hK _ _ ?_
        exact ⟨_, _, _, _, _, _, rfl, (fun _ => J), (fun _ => rfl), (kp f1), (kp f2), (fun h => by
          obtain ⟨K5, p5, q5, e8, r8⟩ := f3 (upd_ne h (by decide))
          exact ⟨K5, p5, q5, e8, fun h5 => r8 (by rw [upd_other (by decide)] at h5; exact h5)⟩), (fun h => ⟨(f4 (upd_ne h (by decide))).1, upd_mono (f4 (upd_ne h (by decide))).2⟩), (fun h => absurd hL5 (by rw [upd_ne h (by decide)]; decide)), (fun h => absurd (f6 (upd_ne h (by decide))).2 (by rw [hL5]; decide))⟩
      · obtain rfl := Option.some.inj ho
        have hL5 : L 5 = false := by
          cases e : L 5
          · rfl
          · exact absurd ((f5 e).1 1 (by decide)) (by rw [hL]; decide)
        have J := I0 hL5
        refine wpOp_step rfl (fun K' hK => ?_)
        go_simp
        refine hK _ _ ?_
        exact ⟨_, _, _, _, _, _, rfl, (fun _ => J), (kp f0), (fun _ => rfl), (kp f2), (fun h => by
          obtain ⟨K5, p5, q5, e8, r8⟩ := f3 (upd_ne h (by decide))
          exact ⟨K5, p5, q5, e8, fun h5 => r8 (by rw [upd_other (by decide)] at h5; exact h5)⟩), (fun h => ⟨(f4 (upd_ne h (by decide))).1, upd_mono (f4 (upd_ne h (by decide))).2⟩), (fun h => absurd hL5 (by rw [upd_ne h (by decide)]; decide)), (fun h => absurd (f6 (upd_ne h (by decide))).2 (by rw [hL5]; decide))⟩
      · obtain rfl := Option.some.inj ho
        have g1 := f1 (hd ⟨1, .data⟩ (by simp) rfl)
        subst g1
        have hL5 : L 5 = false := by
          cases e : L 5
          · rfl
          · exact absurd ((f5 e).1 2 (by decide)) (by rw [hL]; decide)
        have J := I0 hL5
        have z2 : ww.cell? ⟨w.heap.size, 2, none⟩ = some (.slice K p q) := (J.cell (p := ⟨w.heap.size, 2, none⟩) hql).trans x2
        refine wpOp_step rfl (fun K' hK => ?_)
        go_simp
        refine hK _ _ ?_
        exact ⟨_, _, _, _, _, _, rfl, (fun _ => J), (kp f0), (kp f1), (fun _ => rfl), (fun h => by
          obtain ⟨K5, p5, q5, e8, r8⟩ := f3 (upd_ne h (by decide))
          exact ⟨K5, p5, q5, e8, fun h5 => r8 (by rw [upd_other (by decide)] at h5; exact h5)⟩), (fun h => ⟨(f4 (upd_ne h (by decide))).1, upd_mono (f4 (upd_ne h (by decide))).2⟩), (fun h => absurd hL5 (by rw [upd_ne h (by decide)]; decide)), (fun h => absurd (f6 (upd_ne h (by decide))).2 (by rw [hL5]; decide))⟩
      · obtain rfl := Option.some.inj ho
        have g2 := f2 (hd ⟨2, .data⟩ (by simp) rfl)
        subst g2
        have hL5 : L 5 = false := by
          cases e : L 5
          · rfl
          · exact absurd ((f5 e).1 3 (by decide)) (by rw [hL]; decide)
        have J := I0 hL5
        refine wpOp_step rfl (fun K' hK => ?_)
        go_simp
        refine (cloneI_any K p q l ww (k2.up J) hp).mono ?_
        rintro e w' ⟨v1, rfl, o1, b5⟩
        obtain ⟨K5, q5, e8, -⟩ := o1.form
        refine hK _ _ ?_
        exact ⟨_, _, _, _, _, _, rfl, (fun _ => J.trans (b5.mono J.size)), (kp f0), (kp f1), (kp f2), (fun _ => ⟨K5, _, q5, e8, fun _ => o1.base J.size⟩), (fun h => absurd (f4 (upd_ne h (by decide))).2 (by rw [hL]; decide)), (fun h => absurd hL5 (by rw [upd_ne h (by decide)]; decide)), (fun h => absurd (f6 (upd_ne h (by decide))).2 (by rw [hL5]; decide))⟩
      · obtain rfl := Option.some.inj ho
        have g0 := f0 (hd ⟨0, .data⟩ (by simp) rfl)
        have g3 := f3 (hd ⟨3, .data⟩ (by simp) rfl)
        subst g0
        have hL5 : L 5 = false := by
          cases e : L 5
          · rfl
          · exact absurd ((f5 e).1 4 (by decide)) (by rw [hL]; decide)
        have J := I0 hL5
        have l3 := Lib.hid (hd ⟨3, .data⟩ (by simp) rfl)
        obtain ⟨K5, p5, q5, e8, r8⟩ := g3
        subst e8
        refine wpOp_step rfl (fun K' hK => ?_)
        go_simp
        refine hK _ _ ?_
        exact ⟨_, _, _, _, _, _, rfl, (fun _ => J), (kp f0), (kp f1), (kp f2), (fun _ => ⟨K5, p5, q5, rfl, fun h7 => r8 (by rw [upd_other (by decide)] at h7; exact h7)⟩), (fun _ => ⟨rfl, upd_mono l3.out⟩), (fun h => absurd hL5 (by rw [upd_ne h (by decide)]; decide)), (fun h => absurd (f6 (upd_ne h (by decide))).2 (by rw [hL5]; decide))⟩
      · obtain rfl := Option.some.inj ho
        have g4 := f4 (hd ⟨4, .data⟩ (by simp) rfl)
        have lq : Hid (∀ q, q < 5 → L q = true) := Lib.hid (by
          intro q hq
          obtain rfl | rfl | rfl | rfl | rfl : q = 0 ∨ q = 1 ∨ q = 2 ∨ q = 3 ∨ q = 4 := by omega
          · exact hd ⟨0, .phase⟩ (by simp) rfl
          · exact hd ⟨1, .phase⟩ (by simp) rfl
          · exact hd ⟨2, .phase⟩ (by simp) rfl
          · exact hd ⟨3, .phase⟩ (by simp) rfl
          · exact hd ⟨4, .phase⟩ (by simp) rfl)
        have J := I0 hL
        obtain ⟨e9, -⟩ := g4
        subst e9
        obtain ⟨K5, p5, q5, e8, r8⟩ := f3 (lq.out 3 (by decide))
        subst e8
        have o8 := r8 hL
        have P := q3.keep J hrl
        have zf0 : ww.frozen? ⟨w.heap.size + 1 + 1, 0, none⟩ = false := P.frozen 0
        have zf1 : ww.frozen? ⟨w.heap.size + 1 + 1, 1, none⟩ = false := P.frozen 1
        have zf2 : ww.frozen? ⟨w.heap.size + 1 + 1, 2, none⟩ = false := P.frozen 2
        have zc0 : ww.cell? ⟨w.heap.size + 1 + 1, 0, none⟩ = some (.slice none 0 0) := P.cell 0
        have zc1 : ww.cell? ⟨w.heap.size + 1 + 1, 1, none⟩ = some (.slice none 0 0) := P.cell 1
        have zc2 : ww.cell? ⟨w.heap.size + 1 + 1, 2, none⟩ = some (.slice none 0 0) := P.cell 2
        refine wpOp_step rfl (fun K' hK => ?_)
        go_simp
        refine hK _ _ ?_
        exact ⟨_, _, _, _, _, _, rfl, (fun h => absurd h (by rw [upd_self]; decide)), (kp f0), (kp f1), (kp f2), (fun _ => ⟨K5, p5, q5, rfl, fun h => absurd h (by rw [upd_self]; decide)⟩), (fun _ => ⟨rfl, upd_mono (lq.out 3 (by decide))⟩), (fun _ => ⟨fun q hq => upd_mono (lq.out q hq), ww, K5, p5, q5, rfl, rfl, J, o8⟩), (fun h => absurd (f6 (upd_ne h (by decide))).2 (by rw [hL]; decide))⟩
      · obtain rfl := Option.some.inj ho
        have l5 := Lib.hid (hd ⟨5, .chain⟩ (by simp) rfl)
        refine wpOp_step rfl (fun K' hK => ?_)
        go_simp
        refine hK _ _ ?_
        exact ⟨_, _, _, _, _, _, rfl, (fun h => absurd l5.out (by rw [upd_other (by decide)] at h; rw [h]; decide)), (kp f0), (kp f1), (kp f2), (fun h => by
          obtain ⟨K5, p5, q5, e8, r8⟩ := f3 (upd_ne h (by decide))
          exact ⟨K5, p5, q5, e8, fun h5 => absurd l5.out (by rw [upd_other (by decide)] at h5; rw [h5]; decide)⟩), (fun h => ⟨(f4 (upd_ne h (by decide))).1, upd_mono (f4 (upd_ne h (by decide))).2⟩), (fun h => by
          obtain ⟨a1, a2⟩ := f5 (upd_ne h (by decide))
          exact ⟨fun q hq => upd_mono (a1 q hq), a2⟩), (fun _ => ⟨rfl, upd_mono l5.out⟩)⟩
    case hdone =>
      rintro L ac ww hall ⟨t5, t27, t28, t29, t30, t31, rfl, I0, f0, f1, f2, f3, f4, f5, f6⟩
      have e0 := f0 (hall 0 (by decide))
      have e1 := f1 (hall 1 (by decide))
      have e2 := f2 (hall 2 (by decide))
      have e3 := f3 (hall 3 (by decide))
      have e4 := f4 (hall 4 (by decide))
      have e5 := f5 (hall 5 (by decide))
      have e6 := f6 (hall 6 (by decide))
      clear f0 f1 f2 f3 f4 f5 f6
      obtain ⟨-, wp, K5, p5, q5, rfl, rfl, r1, r9⟩ := e5
      obtain ⟨rfl, -⟩ := e6
      have hlo6 := S0.low.size
      have OC := OwnC.of S0.ownH r1 r9 hlo6
      have P := q3.keep r1 hrl
      have bP := b6.trans (r1.mono hw6)
      have P4 := ((P.put 0 (.slice A5 n5 c5)).put 1 (.slice R5 m5 d5)).put 2 (.slice K5 p5 q5)
      have s8 : ((((wp).setCell ⟨w.heap.size + 1 + 1, 0, none⟩ (.slice A5 n5 c5)).setCell ⟨w.heap.size + 1 + 1, 1, none⟩ (.slice R5 m5 d5)).setCell ⟨w.heap.size + 1 + 1, 2, none⟩ (.slice K5 p5 q5)).cell? ⟨w.heap.size + 1 + 1, 0, none⟩ = some (.slice A5 n5 c5) := P4.cell 0
      have s9 : ((((wp).setCell ⟨w.heap.size + 1 + 1, 0, none⟩ (.slice A5 n5 c5)).setCell ⟨w.heap.size + 1 + 1, 1, none⟩ (.slice R5 m5 d5)).setCell ⟨w.heap.size + 1 + 1, 2, none⟩ (.slice K5 p5 q5)).cell? ⟨w.heap.size + 1 + 1, 1, none⟩ = some (.slice R5 m5 d5) := P4.cell 1
      have s10 : ((((wp).setCell ⟨w.heap.size + 1 + 1, 0, none⟩ (.slice A5 n5 c5)).setCell ⟨w.heap.size + 1 + 1, 1, none⟩ (.slice R5 m5 d5)).setCell ⟨w.heap.size + 1 + 1, 2, none⟩ (.slice K5 p5 q5)).cell? ⟨w.heap.size + 1 + 1, 2, none⟩ = some (.slice K5 p5 q5) := P4.cell 2
      have D := Lib.hid (OwnC.out (w := w) (g := w.heap.size + 1 + 1) OC (by omega) bP (by omega))
      clear I0 e0 e1 e2 e3 e4 hall r1 r9 P P4 OC bP S0 q1 q3 k2 b6 v0 v1 x2
      go_wp2_with fail
      exact bodyPost_ret (v := .tuple #[.agg #[.slice A5 n5 c5, .slice R5 m5 d5, .slice K5 p5 q5], .bool false]) (by simp [results, Tryd.results16, go_sem, *]) rfl ⟨_, _, _, by rw [HF.out], by rw [HF.out]; exact D.out.1, D.out.2⟩
  have HF := Lib.hid (show Hps.stepCt h l o = ((Hps.freeH x, Hps.countsL (Hps.freeH x)), true) from HFB.out)
  go_wp2_with fail
  refine (freeLost_any w4 b _ _ rvs x _ S0 (HRV.out (by first | exact trivial | rfl))).mono ?_
  rintro e w7 ⟨vk, rvs7, rfl, S7, hb7, o7⟩
  obtain ⟨K5, q5, rfl, -⟩ := o7.form
  generalize hp5 : (Hps.countsL (Hps.freeH x)).length = p5 at *
  have OC : OwnC w7 w4.heap.size (.slice A5 n5 c5) (.slice R5 m5 d5) (.slice K5 p5 q5) (Hps.freeH x) (Hps.countsL (Hps.freeH x)) := ⟨rvs7, S7.own, o7.base (by have := S0.low.size; omega), fun u hu => by
    cases e : u.ownBlock with
    | none => exact .inl rfl
    | some k =>
      right
      intro e'
      have a1 := (World.ownsRow.lt o7 k e'.symm).1
      have a2 := hb7 u hu k e
      omega⟩
  have b9 : Below w.heap.size w w7 := B2K.out.trans (S7.low.mono B2K.out.size)
  have v0 : w7.cell? ⟨b, 0, none⟩ = some (.slice A5 n5 c5) := S7.box.cell 0
  have v1 : w7.cell? ⟨b, 1, none⟩ = some (.slice R5 m5 d5) := S7.box.cell 1
  have Q7 := q3b.out.keep (S7.low) hsz4
  have r2 : (w7).frozen? ⟨w.heap.size + 1 + 1, 0, none⟩ = false := Q7.frozen 0
  have r3 : (w7).frozen? ⟨w.heap.size + 1 + 1, 1, none⟩ = false := Q7.frozen 1
  have r4 : (w7).frozen? ⟨w.heap.size + 1 + 1, 2, none⟩ = false := Q7.frozen 2
  have r5 : (w7).cell? ⟨w.heap.size + 1 + 1, 0, none⟩ = some (.slice none 0 0) := Q7.cell 0
  have r6 : (w7).cell? ⟨w.heap.size + 1 + 1, 1, none⟩ = some (.slice none 0 0) := Q7.cell 1
  have r7 : (w7).cell? ⟨w.heap.size + 1 + 1, 2, none⟩ = some (.slice none 0 0) := Q7.cell 2
  have q4 := ((Q7.put 0 (.slice A5 n5 c5)).put 1 (.slice R5 m5 d5)).put 2 (.slice K5 p5 q5)
  have r8 : ((((w7).setCell ⟨w.heap.size + 1 + 1, 0, none⟩ (.slice A5 n5 c5)).setCell ⟨w.heap.size + 1 + 1, 1, none⟩ (.slice R5 m5 d5)).setCell ⟨w.heap.size + 1 + 1, 2, none⟩ (.slice K5 p5 q5)).cell? ⟨w.heap.size + 1 + 1, 0, none⟩ = some (.slice A5 n5 c5) := q4.cell 0
  have r9 : ((((w7).setCell ⟨w.heap.size + 1 + 1, 0, none⟩ (.slice A5 n5 c5)).setCell ⟨w.heap.size + 1 + 1, 1, none⟩ (.slice R5 m5 d5)).setCell ⟨w.heap.size + 1 + 1, 2, none⟩ (.slice K5 p5 q5)).cell? ⟨w.heap.size + 1 + 1, 1, none⟩ = some (.slice R5 m5 d5) := q4.cell 1
  have r10 : ((((w7).setCell ⟨w.heap.size + 1 + 1, 0, none⟩ (.slice A5 n5 c5)).setCell ⟨w.heap.size + 1 + 1, 1, none⟩ (.slice R5 m5 d5)).setCell ⟨w.heap.size + 1 + 1, 2, none⟩ (.slice K5 p5 q5)).cell? ⟨w.heap.size + 1 + 1, 2, none⟩ = some (.slice K5 p5 q5) := q4.cell 2
  have D := Lib.hid (OwnC.out (w := w) (g := w.heap.size + 1 + 1) (OC) (by omega) (b9) (by omega))
  clear S7 OC b9 Q7 q4 o7 q1 q3 k2 b6 x2
  go_wp2_with fail
  exact bodyPost_ret (v := .tuple #[.agg #[.slice A5 n5 c5, .slice R5 m5 d5, .slice K5 p5 q5], .bool true]) (by simp [results, Tryd.results16, go_sem, *]) rfl ⟨_, _, _, by rw [HF.out], by rw [HF.out]; exact D.out.1, D.out.2⟩
end Go.Proofs.YtfgdenmlfloloaaDoor

namespace Go.Proofs.YtfgdenmlfloloaaDoor
open Go.RowKit
/-- worlds in which what was there is as it was -/
def InW (w0 w : World) : Prop := Below w0.heap.size w0 w
theorem InW.cell {w0 w : World} (h : InW w0 w) {p : Addr} {v : Value} (hp : p.block < w0.heap.size) (hc : w0.cell? p = some v) : w.cell? p = some v := (Below.cell h hp).trans hc
theorem InW.call {w0 w w' : World} (h : InW w0 w) (hb : Below w.heap.size w w') : InW w0 w' := Below.trans h (hb.mono (Below.size h))
set_option maxRecDepth 100000 in
set_option maxHeartbeats 4000000 in
theorem sameHeap_same (A R A' R' : Option Addr) (n c m d c' d' : Nat) (h : Hp) (w : World) (hs : HS w w.heap.size A n R m h) (hs' : HS w w.heap.size A' n R' m h) (hn : n ≤ 1000000) (hm : m ≤ 1000000) (hb : ∀ cl ∈ h.cs, cl.r.length ≤ 1000000) :
    Calls Tryd.prog 69 #[heapV A n c R m d, heapV A' n c' R' m d'] w fun e w' => e = .returned (.bool true) ∧ Below w.heap.size w w' := by
  have b2 : Below w.heap.size w ((w.alloc (.cells #[.slice A n c, .slice R m d] 26)).alloc (.cells #[.slice A' n c', .slice R' m d'] 26)) := ((Below.refl w.heap.size w).alloc (Nat.le_refl _) _).alloc (by simp) _
  have q1 := (Rw.new w 26 #[.slice A n c, .slice R m d]).alloc (.cells #[.slice A' n c', .slice R' m d'] 26)
  have q2 := Rw.new (w.alloc (.cells #[.slice A n c, .slice R m d] 26)) 26 #[.slice A' n c', .slice R' m d']
  rw [World.size_alloc] at q2
  have hne : ((n : Int) != n) = false := by simp
  have HB := Lib.hid hb
  clear hb
  go_enter Tryd.func69, Tryd.ntmps69
  go_upto_region 1 with fail
  generalize (w.alloc (.cells #[.slice A n c, .slice R m d] 26)).alloc (.cells #[.slice A' n c', .slice R' m d'] 26) = w0 at b2 q1 q2 ⊢
  have y0 : w0.cell? ⟨w.heap.size, 0, none⟩ = some (.slice A n c) := q1.cell 0
  have y1 : w0.cell? ⟨w.heap.size + 1, 0, none⟩ = some (.slice A' n c') := q2.cell 0
  go_wp2_with fail
  clear y0 y1
  go_loopw [5] (fun i wr => ∃ k : Nat, k ≤ n ∧ i = .int .i64 k ∧ Below w0.heap.size w0 wr) (fun i _ => n - (intOf i).toNat)
  case atStart => exact ⟨0, Nat.zero_le _, rfl, Below.refl _ _⟩
  case round =>
    obtain ⟨k, hk, rfl, bw⟩ := hrel
    have bb := b2.trans (bw.mono b2.size)
    have r1 := q1.keep bw q1.lt
    have r2 := q2.keep bw q2.lt
    have hx0 := r1.lt
    have hx1 := r2.lt
    have x0 : wr.cell? ⟨w.heap.size, 0, none⟩ = some (.slice A n c) := r1.cell 0
    have x1 : wr.cell? ⟨w.heap.size + 1, 0, none⟩ = some (.slice A' n c') := r2.cell 0
    by_cases hlt : k < n
    · obtain ⟨g, o, cl, A1, m1, cc, rfl, hg, hcl, d1, d2, d3, -, hi⟩ := (hs.cells.below bb).at_ hlt
      obtain ⟨g', o', cl', A1', m1', cc', rfl, hg', hcl', d1', d2', d3', -, hi'⟩ := (hs'.cells.below bb).at_ hlt
      rw [hcl] at hcl'
      injection hcl' with hcl'
      subst hcl'
      obtain rfl : m1 = m1' := hi.1.symm.trans hi'.1
      have hlt' : (k : Int) < n := by omega
      have hgw : g < wr.heap.size := by have := bb.size; omega
      have hgw' : g' < wr.heap.size := by have := bb.size; omega
      have hm1 : m1 ≤ 1000000 := by rw [← hi.1]; exact HB.out cl (List.mem_of_getElem? hcl)
      have j1 := hi.more bb.size
      have j2 := hi'.more bb.size
      have Ca := Lib.hid (fun (ww : World) (hw : InW wr ww) => show ww.cell? ⟨w.heap.size, 0, none⟩ = some (.slice (some ⟨g, o, none⟩) n c) from hw.cell (by show _ < wr.heap.size; first | exact hx0 | omega) x0)
      have Cb := Lib.hid (fun (ww : World) (hw : InW wr ww) => show ww.cell? ⟨w.heap.size + 1, 0, none⟩ = some (.slice (some ⟨g', o', none⟩) n c') from hw.cell (by show _ < wr.heap.size; first | exact hx1 | omega) x1)
      have Cc := Lib.hid (fun (ww : World) (hw : InW wr ww) => show ww.cell? ⟨g, o + k * 3, none⟩ = some (.bool cl.u) from hw.cell (by show _ < wr.heap.size; first | exact hgw | omega) d1)
      have Cd := Lib.hid (fun (ww : World) (hw : InW wr ww) => show ww.cell? ⟨g', o' + k * 3, none⟩ = some (.bool cl.u) from hw.cell (by show _ < wr.heap.size; first | exact hgw' | omega) d1')
      have Ce := Lib.hid (fun (ww : World) (hw : InW wr ww) => show ww.cell? ⟨g, o + k * 3 + 1, none⟩ = some (.int .i64 cl.d) from hw.cell (by show _ < wr.heap.size; first | exact hgw | omega) d2)
      have Cf := Lib.hid (fun (ww : World) (hw : InW wr ww) => show ww.cell? ⟨g', o' + k * 3 + 1, none⟩ = some (.int .i64 cl.d) from hw.cell (by show _ < wr.heap.size; first | exact hgw' | omega) d2')
      have Cg := Lib.hid (fun (ww : World) (hw : InW wr ww) => show ww.cell? ⟨g, o + k * 3 + 2, none⟩ = some (.slice A1 m1 cc) from hw.cell (by show _ < wr.heap.size; first | exact hgw | omega) d3)
      have Ch := Lib.hid (fun (ww : World) (hw : InW wr ww) => show ww.cell? ⟨g', o' + k * 3 + 2, none⟩ = some (.slice A1' m1 cc') from hw.cell (by show _ < wr.heap.size; first | exact hgw' | omega) d3')
      have CI := Lib.hid (fun w' (hw' : InW wr w') => (sameInts_any A1 A1' m1 m1 cc cc' cl.r cl.r w' ((j1.below hw').more (Below.size hw')) ((j2.below hw').more (Below.size hw')) (by omega) (by omega)).mono (R' := fun e w'' => e = .returned (.bool true) ∧ InW wr w'') fun e w'' hh => ⟨by rw [decide_eq_true rfl] at hh; exact hh.1, hw'.call hh.2⟩)
      have hdd : (cl.d != cl.d) = false := by simp
      have hnu : (!(cl.u == cl.u)) = false := by simp
      go_wp2_with fail
      clear d1 d2 d3 d1' d2' d3' x0 x1 hi hi' hcl
      cases hu : cl.u
      · rw [hu] at Cc Cd
        refine wp_region_quiet (C := InW wr) (by kernel_rfl) (by kernel_rfl) (show InW wr _ from (Below.refl _ _).drew) ?_
        repeat (
          refine wpQuiet_step (fun K hK => ?_)
          go_simp
          first
          | (refine hK _ ?_
             clear hK K)
          | ((with_reducible refine ⟨_, fun _ _ => rfl, hK _ ?_⟩)
             clear hK K)
          | ((with_reducible refine ⟨_, CI.out, hK _ ?_⟩)
             clear hK K)
          | (refine ⟨.slice (some ⟨g, o, none⟩) n c, fun w' hw' => ?_, hK _ ?_⟩
             · have hcw := Ca.out w' hw'
               go_simp
               done
             clear hK K)
          | (refine ⟨.slice (some ⟨g', o', none⟩) n c', fun w' hw' => ?_, hK _ ?_⟩
             · have hcw := Cb.out w' hw'
               go_simp
               done
             clear hK K)
          | (refine ⟨.bool false, fun w' hw' => ?_, hK _ ?_⟩
             · have hcw := Cc.out w' hw'
               go_simp
               done
             clear hK K)
          | (refine ⟨.bool false, fun w' hw' => ?_, hK _ ?_⟩
             · have hcw := Cd.out w' hw'
               go_simp
               done
             clear hK K)
          | (refine ⟨.int .i64 cl.d, fun w' hw' => ?_, hK _ ?_⟩
             · have hcw := Ce.out w' hw'
               go_simp
               done
             clear hK K)
          | (refine ⟨.int .i64 cl.d, fun w' hw' => ?_, hK _ ?_⟩
             · have hcw := Cf.out w' hw'
               go_simp
               done
             clear hK K)
          | (refine ⟨.slice A1 m1 cc, fun w' hw' => ?_, hK _ ?_⟩
             · have hcw := Cg.out w' hw'
               go_simp
               done
             clear hK K)
          | (refine ⟨.slice A1' m1 cc', fun w' hw' => ?_, hK _ ?_⟩
             · have hcw := Ch.out w' hw'
               go_simp
               done
             clear hK K)
          )
        refine wpQuiet_nil ?_
        intro w5 hw5
        have b5 : Below w0.heap.size w0 w5 := bw.trans ((show Below wr.heap.size wr w5 from hw5).mono bw.size)
        clear Ca Cb Cc Cd Ce Cf Cg Ch CI
        go_wp2_with fail
        go_roundw
        case rel => exact ⟨k + 1, by omega, by go_num, b5⟩
        case measure => simp [intOf]; omega
      · rw [hu] at Cc Cd
        refine wp_region_quiet (C := InW wr) (by kernel_rfl) (by kernel_rfl) (show InW wr _ from (Below.refl _ _).drew) ?_
        repeat (
          refine wpQuiet_step (fun K hK => ?_)
          go_simp
          first
          | (refine hK _ ?_
             clear hK K)
          | ((with_reducible refine ⟨_, fun _ _ => rfl, hK _ ?_⟩)
             clear hK K)
          | ((with_reducible refine ⟨_, CI.out, hK _ ?_⟩)
             clear hK K)
          | (refine ⟨.slice (some ⟨g, o, none⟩) n c, fun w' hw' => ?_, hK _ ?_⟩
             · have hcw := Ca.out w' hw'
               go_simp
               done
             clear hK K)
          | (refine ⟨.slice (some ⟨g', o', none⟩) n c', fun w' hw' => ?_, hK _ ?_⟩
             · have hcw := Cb.out w' hw'
               go_simp
               done
             clear hK K)
          | (refine ⟨.bool true, fun w' hw' => ?_, hK _ ?_⟩
             · have hcw := Cc.out w' hw'
               go_simp
               done
             clear hK K)
          | (refine ⟨.bool true, fun w' hw' => ?_, hK _ ?_⟩
             · have hcw := Cd.out w' hw'
               go_simp
               done
             clear hK K)
          | (refine ⟨.int .i64 cl.d, fun w' hw' => ?_, hK _ ?_⟩
             · have hcw := Ce.out w' hw'
               go_simp
               done
             clear hK K)
          | (refine ⟨.int .i64 cl.d, fun w' hw' => ?_, hK _ ?_⟩
             · have hcw := Cf.out w' hw'
               go_simp
               done
             clear hK K)
          | (refine ⟨.slice A1 m1 cc, fun w' hw' => ?_, hK _ ?_⟩
             · have hcw := Cg.out w' hw'
               go_simp
               done
             clear hK K)
          | (refine ⟨.slice A1' m1 cc', fun w' hw' => ?_, hK _ ?_⟩
             · have hcw := Ch.out w' hw'
               go_simp
               done
             clear hK K)
          )
        refine wpQuiet_nil ?_
        intro w5 hw5
        have b5 : Below w0.heap.size w0 w5 := bw.trans ((show Below wr.heap.size wr w5 from hw5).mono bw.size)
        clear Ca Cb Cc Cd Ce Cf Cg Ch CI
        go_wp2_with fail
        go_roundw
        case rel => exact ⟨k + 1, by omega, by go_num, b5⟩
        case measure => simp [intOf]; omega
    · obtain rfl : k = n := by omega
      have z0 : wr.cell? ⟨w.heap.size, 1, none⟩ = some (.slice R m d) := r1.cell 1
      have z1 : wr.cell? ⟨w.heap.size + 1, 1, none⟩ = some (.slice R' m d') := r2.cell 1
      have t1 := hs.roots.below bb
      have t2 := hs'.roots.below bb
      go_wp2_with fail
      refine (sameInts_any _ _ _ _ _ _ h.rt h.rt _ (t1.more bb.size) (t2.more bb.size) (by omega) (by omega)).mono ?_
      rw [decide_eq_true rfl]
      rintro e w5 ⟨rfl, b5⟩
      have bf := bb.trans (b5.mono bb.size)
      go_wp2_with fail
      go_ret
      exact ⟨rfl, bf⟩
end Go.Proofs.YtfgdenmlfloloaaDoor

