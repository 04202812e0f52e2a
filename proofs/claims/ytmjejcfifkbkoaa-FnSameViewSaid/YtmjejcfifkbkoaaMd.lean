/- What the program's operationOf, CommandValid and CommandsValid return: for every instruction and program. No conditions. -/
import Derived.Test.YtmjejcfifkbkoaaMc
import Derived.Deep.Cut
import Derived.Laws.EntriesVeiled
namespace Go.Proofs.Ytmjejcfifkbkoaa
open Go.RowKit
set_option maxRecDepth 100000

set_option maxHeartbeats 1000000 in
theorem operationOf_bad (o : Cm) (w : World) (h : o.op < 1 ∨ 6 < o.op) : Calls Try.prog 66 #[cmV o] w fun e w' => e = .returned (.tuple #[opZ, .bool false]) ∧ Below w.heap.size w w' := by
  obtain ⟨k, a, b, c⟩ := o
  simp only at h
  have b1 : Below w.heap.size w ((w.alloc (.cells #[.int .i64 k, .int .i64 a, .int .i64 b, .int .i64 c] 36)).alloc (.cells #[.int .i64 0, .int .i64 0, .int .i64 0, .nilFunc, .nilFunc] 89)) := ((Below.refl _ _).alloc (Nat.le_refl _) _).alloc (by simp) _
  have q1 := Rw.new (w.alloc (.cells #[.int .i64 k, .int .i64 a, .int .i64 b, .int .i64 c] 36)) 89 #[.int .i64 0, .int .i64 0, .int .i64 0, .nilFunc, .nilFunc]
  simp only [World.size_alloc] at q1
  by_cases h1 : k < 1
  · go_enter Try.func66, Try.ntmps66
    go_wp2_with fail
    exact bodyPost_ret (v := .tuple #[opZ, .bool false]) (by simp [results, Try.results66, go_sem, *]) rfl ⟨rfl, b1⟩
  · have d1 : decide (k < 1) = false := decide_eq_false h1
    have h2 : 6 < k := by omega
    go_enter Try.func66, Try.ntmps66
    go_wp2_with fail
    exact bodyPost_ret (v := .tuple #[opZ, .bool false]) (by simp [results, Try.results66, go_sem, *]) rfl ⟨rfl, b1⟩

set_option maxHeartbeats 4000000 in
theorem operationOf_walk (k x y z : Int) (f g : Nat) (a b c : Int) (w : World) (h1 : 1 ≤ k) (h6 : k ≤ 6) (hix : ∀ w, (Instr.index 139 opsV (.int .i64 k)).run Try.prog w = .ok (opA x y z f g) w) :
    Calls Try.prog 66 #[cmV ⟨k, a, b, c⟩] w fun e w' => e = .returned (.tuple #[opA x y z f g, .bool (Hps.inR a 0 x && Hps.inR b 0 y && Hps.inR c 0 z)]) ∧ Below w.heap.size w w' := by
  have HIX := Lib.hid hix
  obtain ⟨r, hr⟩ : ∃ r, (Hps.inR a 0 x && Hps.inR b 0 y && Hps.inR c 0 z) = r := ⟨_, rfl⟩
  rw [hr]
  have HR := Lib.hid hr
  have d1 : decide (k < 1) = false := decide_eq_false (by omega)
  have d2 : decide (6 < k) = false := decide_eq_false (by omega)
  clear h1 h6 hix hr
  have B2 : Below w.heap.size w ((w.alloc (.cells #[.int .i64 k, .int .i64 a, .int .i64 b, .int .i64 c] 36)).alloc (.cells #[.int .i64 0, .int .i64 0, .int .i64 0, .nilFunc, .nilFunc] 89)) := ((Below.refl _ _).alloc (Nat.le_refl _) _).alloc (by simp) _
  have Q1 := (Rw.new w 36 #[.int .i64 k, .int .i64 a, .int .i64 b, .int .i64 c]).alloc (.cells #[.int .i64 0, .int .i64 0, .int .i64 0, .nilFunc, .nilFunc] 89)
  have Q2 := Rw.new (w.alloc (.cells #[.int .i64 k, .int .i64 a, .int .i64 b, .int .i64 c] 36)) 89 #[.int .i64 0, .int .i64 0, .int .i64 0, .nilFunc, .nilFunc]
  simp only [World.size_alloc] at Q2
  go_enter Try.func66, Try.ntmps66
  go_upto_region 3 with fail
  generalize ((w.alloc (.cells #[.int .i64 k, .int .i64 a, .int .i64 b, .int .i64 c] 36)).alloc (.cells #[.int .i64 0, .int .i64 0, .int .i64 0, .nilFunc, .nilFunc] 89)) = w2 at B2 Q1 Q2 ⊢
  have hz := Q2.lt
  refine wp_region_inv (by kernel_rfl) (by kernel_rfl) (fun L ac ww => ∃ t4 t14 t15 t16 t17 : Value, ac = { tmps := #[cmV { op := k, a := a, b := b, c := c }, Value.pointer (some { block := w.heap.size, off := 0 }), Value.pointer (some { block := w.heap.size + 1, off := 0 }), Value.bool false, t4, Value.pointer (some { block := w.heap.size, off := 0 }), Value.int IntKind.i64 k, Value.bool false, Value.bool false, Value.pointer (some { block := w.heap.size, off := 0 }), Value.int IntKind.i64 k, Value.bool false, Value.bool false, undef, t14, t15, t16, t17, undef, undef, undef, undef], defers := [] } ∧ (Below w2.heap.size w2 ww) ∧ (L 0 = true → t14 = opsV) ∧ (L 1 = true → t15 = .pointer (some ⟨w.heap.size, 0, none⟩)) ∧ (L 2 = true → t16 = .int .i64 k) ∧ (L 3 = true → t17 = opA x y z f g) ∧ (L 4 = true → ∃ g4, t4 = .pointer (some ⟨g4, 0, none⟩) ∧ w2.heap.size ≤ g4 ∧ ∃ cs, Rw ww g4 89 cs ∧ cs = (if L 5 = true then #[.int .i64 x, .int .i64 y, .int .i64 z, .func (.func f) #[] #[], .func (.func g) #[] #[]] else #[.int .i64 0, .int .i64 0, .int .i64 0, .nilFunc, .nilFunc])) ∧ (L 5 = true → L 4 = true ∧ True)) ?h0 ?hstep ?hdone
  case h0 => exact ⟨_, _, _, _, _, rfl, (Below.refl _ _).drew, (fun h => absurd h Bool.false_ne_true), (fun h => absurd h Bool.false_ne_true), (fun h => absurd h Bool.false_ne_true), (fun h => absurd h Bool.false_ne_true), (fun h => absurd h Bool.false_ne_true), (fun h => absurd h Bool.false_ne_true)⟩
  case hstep =>
    rintro L ac ww i o ho hL hd ⟨t4, t14, t15, t16, t17, rfl, I0, f0, f1, f2, f3, f4, f5⟩
    have hi : i < 6 := (Array.getElem?_eq_some_iff.1 ho).1
    obtain rfl | rfl | rfl | rfl | rfl | rfl : i = 0 ∨ i = 1 ∨ i = 2 ∨ i = 3 ∨ i = 4 ∨ i = 5 := by omega
    · obtain rfl := Option.some.inj ho
      refine wpOp_step rfl (fun K' hK => ?_)
      go_simp
      refine (operations_any ww).mono ?_
      rintro e w' ⟨rfl, b5⟩
      refine hK _ _ ?_
      exact ⟨_, _, _, _, _, rfl, (I0.trans (b5.mono I0.size)), (fun _ => rfl), (kp f1), (kp f2), (kp f3), (fun h => by
        obtain ⟨g4, e4, h4, cs, h5, h6⟩ := f4 (upd_ne h (by decide))
        exact ⟨g4, e4, h4, cs, h5.keep b5 h5.lt, by rw [h6, upd_other (by decide)]⟩), (fun h => ⟨by first | exact upd_self | (rw [upd_other (by decide)]; exact (f5 (upd_ne h (by decide))).1), trivial⟩)⟩
    · obtain rfl := Option.some.inj ho
      refine wpOp_step rfl (fun K' hK => ?_)
      go_simp
      refine hK _ _ ?_
      exact ⟨_, _, _, _, _, rfl, (I0), (kp f0), (fun _ => rfl), (kp f2), (kp f3), (fun h => by
        obtain ⟨g4, e4, h4, cs, h5, h6⟩ := f4 (upd_ne h (by decide))
        exact ⟨g4, e4, h4, cs, h5, by rw [h6, upd_other (by decide)]⟩), (fun h => ⟨by first | exact upd_self | (rw [upd_other (by decide)]; exact (f5 (upd_ne h (by decide))).1), trivial⟩)⟩
    · obtain rfl := Option.some.inj ho
      have g1 := f1 (hd ⟨1, .data⟩ (by simp) rfl)
      subst g1
      have z0 : ww.cell? ⟨w.heap.size, 0, none⟩ = some (.int .i64 k) := (I0.cell (p := ⟨w.heap.size, 0, none⟩) (by show w.heap.size < w2.heap.size; omega)).trans (Q1.cell 0)
      refine wpOp_step rfl (fun K' hK => ?_)
      go_simp
      refine hK _ _ ?_
      exact ⟨_, _, _, _, _, rfl, (I0), (kp f0), (kp f1), (fun _ => rfl), (kp f3), (fun h => by
        obtain ⟨g4, e4, h4, cs, h5, h6⟩ := f4 (upd_ne h (by decide))
        exact ⟨g4, e4, h4, cs, h5, by rw [h6, upd_other (by decide)]⟩), (fun h => ⟨by first | exact upd_self | (rw [upd_other (by decide)]; exact (f5 (upd_ne h (by decide))).1), trivial⟩)⟩
    · obtain rfl := Option.some.inj ho
      have g0 := f0 (hd ⟨0, .data⟩ (by simp) rfl)
      have g2 := f2 (hd ⟨2, .data⟩ (by simp) rfl)
      subst g0
      subst g2
      have hix := HIX.out ww
      refine wpOp_step rfl (fun K' hK => ?_)
      go_simp
      refine hK _ _ ?_
      exact ⟨_, _, _, _, _, rfl, (I0), (kp f0), (kp f1), (kp f2), (fun _ => rfl), (fun h => by
        obtain ⟨g4, e4, h4, cs, h5, h6⟩ := f4 (upd_ne h (by decide))
        exact ⟨g4, e4, h4, cs, h5, by rw [h6, upd_other (by decide)]⟩), (fun h => ⟨by first | exact upd_self | (rw [upd_other (by decide)]; exact (f5 (upd_ne h (by decide))).1), trivial⟩)⟩
    · obtain rfl := Option.some.inj ho
      have hL5 : L 5 = false := by
        cases e : L 5
        · rfl
        · exact absurd (f5 e).1 (by rw [hL]; decide)
      refine wpOp_step rfl (fun K' hK => ?_)
      go_simp
      refine hK _ _ ?_
      exact ⟨_, _, _, _, _, rfl, (I0.alloc I0.size _), (kp f0), (kp f1), (kp f2), (kp f3), (fun _ => ⟨_, rfl, I0.size, _, Rw.new _ _ _, by rw [upd_other (by decide), hL5, if_neg (by decide)]⟩), (fun h => ⟨by first | exact upd_self | (rw [upd_other (by decide)]; exact (f5 (upd_ne h (by decide))).1), trivial⟩)⟩
    · obtain rfl := Option.some.inj ho
      have g3 := f3 (hd ⟨3, .data⟩ (by simp) rfl)
      have g4 := f4 (hd ⟨4, .data⟩ (by simp) rfl)
      subst g3
      obtain ⟨g4, e4, h4, cs, h5, h6⟩ := g4
      rw [hL, if_neg (by decide)] at h6
      subst h6
      subst e4
      have l4 := hd ⟨4, .data⟩ (by simp) rfl
      have c0 := h5.cell 0
      have c1 := h5.cell 1
      have c2 := h5.cell 2
      have c3 := h5.cell 3
      have c4 := h5.cell 4
      have fz0 := h5.frozen 0
      have fz1 := h5.frozen 1
      have fz2 := h5.frozen 2
      have fz3 := h5.frozen 3
      have fz4 := h5.frozen 4
      simp only [List.getElem?_toArray, List.getElem?_cons_zero, List.getElem?_cons_succ] at c0 c1 c2 c3 c4
      have hput := ((((h5.put 0 (.int .i64 x)).put 1 (.int .i64 y)).put 2 (.int .i64 z)).put 3 (.func (.func f) #[] #[])).put 4 (.func (.func g) #[] #[])
      have hbel := ((((I0.setCell (p := ⟨g4, 0, none⟩) (by show w2.heap.size ≤ g4; omega) (.int .i64 x)).setCell (p := ⟨g4, 1, none⟩) (by show w2.heap.size ≤ g4; omega) (.int .i64 y)).setCell (p := ⟨g4, 2, none⟩) (by show w2.heap.size ≤ g4; omega) (.int .i64 z)).setCell (p := ⟨g4, 3, none⟩) (by show w2.heap.size ≤ g4; omega) (.func (.func f) #[] #[])).setCell (p := ⟨g4, 4, none⟩) (by show w2.heap.size ≤ g4; omega) (.func (.func g) #[] #[])
      refine wpOp_step rfl (fun K' hK => ?_)
      go_simp
      refine hK _ _ ?_
      exact ⟨_, _, _, _, _, rfl, (hbel), (kp f0), (kp f1), (kp f2), (kp f3), (fun _ => ⟨g4, rfl, h4, _, hput, by rw [upd_self, if_pos rfl]; rfl⟩), (fun _ => ⟨by rw [upd_other (by decide)]; exact l4, trivial⟩)⟩
  case hdone =>
    rintro L ac ww hall ⟨t4, t14, t15, t16, t17, rfl, I0, f0, f1, f2, f3, f4, f5⟩
    have e0 := f0 (hall 0 (by decide))
    have e1 := f1 (hall 1 (by decide))
    have e2 := f2 (hall 2 (by decide))
    have e3 := f3 (hall 3 (by decide))
    have e4 := f4 (hall 4 (by decide))
    have e5 := f5 (hall 5 (by decide))
    clear f0 f1 f2 f3 f4 f5
    obtain ⟨g4, rfl, hg4, cs, R4, e6⟩ := e4
    rw [hall 5 (by decide), if_pos rfl] at e6
    subst e6
    subst e0 e1 e2 e3
    clear e5 hall
    replace B2 := B2.trans (I0.mono B2.size)
    replace Q1 := Q1.keep I0 Q1.lt
    replace Q2 := Q2.keep I0 Q2.lt
    clear I0
    go_upto_region 4 with fail
    have hne : g4 ≠ w.heap.size + 1 := by omega
    refine wp_region_inv (by kernel_rfl) (by kernel_rfl) (fun L ac wv => ∃ t3 t18 t19 t20 t21 : Value, ac = { tmps := #[cmV { op := k, a := a, b := b, c := c }, Value.pointer (some { block := w.heap.size, off := 0 }), Value.pointer (some { block := w.heap.size + 1, off := 0 }), t3, Value.pointer (some { block := g4, off := 0 }), Value.pointer (some { block := w.heap.size, off := 0 }), Value.int IntKind.i64 k, Value.bool false, Value.bool false, Value.pointer (some { block := w.heap.size, off := 0 }), Value.int IntKind.i64 k, Value.bool false, Value.bool false, undef, opsV, Value.pointer (some { block := w.heap.size, off := 0 }), Value.int IntKind.i64 k, opA x y z f g, t18, t19, t20, t21], defers := [] } ∧ (Below w.heap.size w wv) ∧ (Rw wv g4 89 #[.int .i64 x, .int .i64 y, .int .i64 z, .func (.func f) #[] #[], .func (.func g) #[] #[]]) ∧ (Rw wv w.heap.size 36 #[.int .i64 k, .int .i64 a, .int .i64 b, .int .i64 c]) ∧ (Rw wv (w.heap.size + 1) 89 (if L 4 = true then #[.int .i64 x, .int .i64 y, .int .i64 z, .func (.func f) #[] #[], .func (.func g) #[] #[]] else #[.int .i64 0, .int .i64 0, .int .i64 0, .nilFunc, .nilFunc])) ∧ (L 0 = true → t18 = opA x y z f g) ∧ (L 1 = true → t19 = opA x y z f g) ∧ (L 2 = true → t20 = cmV ⟨k, a, b, c⟩) ∧ (L 3 = true → t21 = .bool r) ∧ (L 4 = true → True) ∧ (L 5 = true → t3 = .bool r)) ?h0 ?hstep ?hdone
    case h0 => exact ⟨_, _, _, _, _, rfl, B2.drew, (R4.keep (Below.refl _ _).drew R4.lt), (Q1.keep (Below.refl _ _).drew Q1.lt), by rw [if_neg (by decide)]; exact Q2.keep (Below.refl _ _).drew Q2.lt, (fun h => absurd h Bool.false_ne_true), (fun h => absurd h Bool.false_ne_true), (fun h => absurd h Bool.false_ne_true), (fun h => absurd h Bool.false_ne_true), (fun h => absurd h Bool.false_ne_true), (fun h => absurd h Bool.false_ne_true)⟩
    case hstep =>
      rintro L ac wv i o ho hL hd ⟨t3, t18, t19, t20, t21, rfl, I0, I1, I2, I3, f0, f1, f2, f3, f4, f5⟩
      have hi : i < 6 := (Array.getElem?_eq_some_iff.1 ho).1
      obtain rfl | rfl | rfl | rfl | rfl | rfl : i = 0 ∨ i = 1 ∨ i = 2 ∨ i = 3 ∨ i = 4 ∨ i = 5 := by omega
      · obtain rfl := Option.some.inj ho
        have I10_ := I1.cell 0
        have I11_ := I1.cell 1
        have I12_ := I1.cell 2
        have I13_ := I1.cell 3
        have I14_ := I1.cell 4
        simp only [List.getElem?_toArray, List.getElem?_cons_zero, List.getElem?_cons_succ] at I10_ I11_ I12_ I13_ I14_
        refine wpOp_step rfl (fun K' hK => ?_)
        go_simp
        refine hK _ _ ?_
        exact ⟨_, _, _, _, _, rfl, (I0), (I1), (I2), (by rw [upd_other (by decide)]; exact I3), (fun _ => rfl), (kp f1), (kp f2), (kp f3), (kp f4), (kp f5)⟩
      · obtain rfl := Option.some.inj ho
        have I10_ := I1.cell 0
        have I11_ := I1.cell 1
        have I12_ := I1.cell 2
        have I13_ := I1.cell 3
        have I14_ := I1.cell 4
        simp only [List.getElem?_toArray, List.getElem?_cons_zero, List.getElem?_cons_succ] at I10_ I11_ I12_ I13_ I14_
        refine wpOp_step rfl (fun K' hK => ?_)
        go_simp
        refine hK _ _ ?_
        exact ⟨_, _, _, _, _, rfl, (I0), (I1), (I2), (by rw [upd_other (by decide)]; exact I3), (kp f0), (fun _ => rfl), (kp f2), (kp f3), (kp f4), (kp f5)⟩
      · obtain rfl := Option.some.inj ho
        have I20_ := I2.cell 0
        have I21_ := I2.cell 1
        have I22_ := I2.cell 2
        have I23_ := I2.cell 3
        simp only [List.getElem?_toArray, List.getElem?_cons_zero, List.getElem?_cons_succ] at I20_ I21_ I22_ I23_
        refine wpOp_step rfl (fun K' hK => ?_)
        go_simp
        refine hK _ _ ?_
        exact ⟨_, _, _, _, _, rfl, (I0), (I1), (I2), (by rw [upd_other (by decide)]; exact I3), (kp f0), (kp f1), (fun _ => rfl), (kp f3), (kp f4), (kp f5)⟩
      · obtain rfl := Option.some.inj ho
        have g1 := f1 (hd ⟨1, .data⟩ (by simp) rfl)
        have g2 := f2 (hd ⟨2, .data⟩ (by simp) rfl)
        subst g1
        subst g2
        refine wpOp_step rfl (fun K' hK => ?_)
        go_simp
        refine (takes_any f g x y z ⟨k, a, b, c⟩ wv).mono ?_
        simp only [HR.out]
        rintro e w' ⟨rfl, b5⟩
        refine hK _ _ ?_
        exact ⟨_, _, _, _, _, rfl, (I0.trans (b5.mono I0.size)), (I1.keep b5 I1.lt), (I2.keep b5 I2.lt), (by rw [upd_other (by decide)]; exact I3.keep b5 I3.lt), (kp f0), (kp f1), (kp f2), (fun _ => rfl), (kp f4), (kp f5)⟩
      · obtain rfl := Option.some.inj ho
        have g0 := f0 (hd ⟨0, .data⟩ (by simp) rfl)
        subst g0
        rw [hL, if_neg (by decide)] at I3
        have P0 := I3
        have P00_ := P0.cell 0
        have P01_ := P0.cell 1
        have P02_ := P0.cell 2
        have P03_ := P0.cell 3
        have P04_ := P0.cell 4
        simp only [List.getElem?_toArray, List.getElem?_cons_zero, List.getElem?_cons_succ] at P00_ P01_ P02_ P03_ P04_
        have fz0 := P0.frozen 0
        have fz1 := P0.frozen 1
        have fz2 := P0.frozen 2
        have fz3 := P0.frozen 3
        have fz4 := P0.frozen 4
        refine wpOp_step rfl (fun K' hK => ?_)
        go_simp
        refine hK _ _ ?_
        exact ⟨_, _, _, _, _, rfl, ((((((I0.setCell (p := ⟨w.heap.size + 1, 0, none⟩) (by show w.heap.size ≤ w.heap.size + 1; omega) (.int .i64 x)).setCell (p := ⟨w.heap.size + 1, 1, none⟩) (by show w.heap.size ≤ w.heap.size + 1; omega) (.int .i64 y)).setCell (p := ⟨w.heap.size + 1, 2, none⟩) (by show w.heap.size ≤ w.heap.size + 1; omega) (.int .i64 z)).setCell (p := ⟨w.heap.size + 1, 3, none⟩) (by show w.heap.size ≤ w.heap.size + 1; omega) (.func (.func f) #[] #[])).setCell (p := ⟨w.heap.size + 1, 4, none⟩) (by show w.heap.size ≤ w.heap.size + 1; omega) (.func (.func g) #[] #[]))), ((((((I1.other hne (.int .i64 x)).other hne (.int .i64 y)).other hne (.int .i64 z)).other hne (.func (.func f) #[] #[])).other hne (.func (.func g) #[] #[]))), ((((((I2.other (by omega) (.int .i64 x)).other (by omega) (.int .i64 y)).other (by omega) (.int .i64 z)).other (by omega) (.func (.func f) #[] #[])).other (by omega) (.func (.func g) #[] #[]))), (by rw [upd_self, if_pos rfl]; exact (((((P0.put 0 (.int .i64 x)).put 1 (.int .i64 y)).put 2 (.int .i64 z)).put 3 (.func (.func f) #[] #[])).put 4 (.func (.func g) #[] #[]))), (kp f0), (kp f1), (kp f2), (kp f3), (fun _ => trivial), (kp f5)⟩
      · obtain rfl := Option.some.inj ho
        have g3 := f3 (hd ⟨3, .data⟩ (by simp) rfl)
        subst g3
        refine wpOp_step rfl (fun K' hK => ?_)
        go_simp
        refine hK _ _ ?_
        exact ⟨_, _, _, _, _, rfl, (I0), (I1), (I2), (by rw [upd_other (by decide)]; exact I3), (kp f0), (kp f1), (kp f2), (kp f3), (kp f4), (fun _ => rfl)⟩
    case hdone =>
      rintro L ac wv hall ⟨t3, t18, t19, t20, t21, rfl, I0, I1, I2, I3, f0, f1, f2, f3, f4, f5⟩
      have e0 := f0 (hall 0 (by decide))
      have e1 := f1 (hall 1 (by decide))
      have e2 := f2 (hall 2 (by decide))
      have e3 := f3 (hall 3 (by decide))
      have e4 := f4 (hall 4 (by decide))
      have e5 := f5 (hall 5 (by decide))
      clear f0 f1 f2 f3 f4 f5
      rw [hall 4 (by decide), if_pos rfl] at I3
      subst e0 e1 e2 e3 e5
      clear e4 hall I1 I2 R4 Q1 Q2 B2
      have I30_ := I3.cell 0
      have I31_ := I3.cell 1
      have I32_ := I3.cell 2
      have I33_ := I3.cell 3
      have I34_ := I3.cell 4
      simp only [List.getElem?_toArray, List.getElem?_cons_zero, List.getElem?_cons_succ] at I30_ I31_ I32_ I33_ I34_
      go_wp2_with fail
      exact bodyPost_ret (v := .tuple #[opA x y z f g, .bool r]) (by simp [results, Try.results66, go_sem, *]) rfl ⟨rfl, I0⟩

theorem Hps.inR_zero {n : Int} : Hps.inR n 0 0 = decide (n = 0) := by
  unfold Hps.inR
  rw [← Bool.decide_and, decide_eq_decide]
  omega

theorem operationOf_1 (a b c : Int) (w : World) : Calls Try.prog 66 #[cmV ⟨1, a, b, c⟩] w fun e w' => e = .returned (.tuple #[op1, .bool (Hps.okCm ⟨1, a, b, c⟩)]) ∧ Below w.heap.size w w' := by
  have := operationOf_walk 1 3 3 99 _ _ a b c w (by omega) (by omega) run_op1
  rw [show Hps.okCm ⟨1, a, b, c⟩ = (Hps.inR a 0 3 && Hps.inR b 0 3 && Hps.inR c 0 99) by simp [Hps.okCm]]
  exact this

theorem operationOf_2 (a b c : Int) (w : World) : Calls Try.prog 66 #[cmV ⟨2, a, b, c⟩] w fun e w' => e = .returned (.tuple #[op2, .bool (Hps.okCm ⟨2, a, b, c⟩)]) ∧ Below w.heap.size w w' := by
  have := operationOf_walk 2 3 3 2 _ _ a b c w (by omega) (by omega) run_op2
  rw [show Hps.okCm ⟨2, a, b, c⟩ = (Hps.inR a 0 3 && Hps.inR b 0 3 && Hps.inR c 0 2) by simp [Hps.okCm]]
  exact this

theorem operationOf_3 (a b c : Int) (w : World) : Calls Try.prog 66 #[cmV ⟨3, a, b, c⟩] w fun e w' => e = .returned (.tuple #[op3, .bool (Hps.okCm ⟨3, a, b, c⟩)]) ∧ Below w.heap.size w w' := by
  have := operationOf_walk 3 3 3 2 _ _ a b c w (by omega) (by omega) run_op3
  rw [show Hps.okCm ⟨3, a, b, c⟩ = (Hps.inR a 0 3 && Hps.inR b 0 3 && Hps.inR c 0 2) by simp [Hps.okCm]]
  exact this

theorem operationOf_4 (a b c : Int) (w : World) : Calls Try.prog 66 #[cmV ⟨4, a, b, c⟩] w fun e w' => e = .returned (.tuple #[op4, .bool (Hps.okCm ⟨4, a, b, c⟩)]) ∧ Below w.heap.size w w' := by
  have := operationOf_walk 4 3 3 0 _ _ a b c w (by omega) (by omega) run_op4
  rw [show Hps.okCm ⟨4, a, b, c⟩ = (Hps.inR a 0 3 && Hps.inR b 0 3 && Hps.inR c 0 0) by simp [Hps.okCm, Hps.inR_zero]]
  exact this

theorem operationOf_5 (a b c : Int) (w : World) : Calls Try.prog 66 #[cmV ⟨5, a, b, c⟩] w fun e w' => e = .returned (.tuple #[op5, .bool (Hps.okCm ⟨5, a, b, c⟩)]) ∧ Below w.heap.size w w' := by
  have := operationOf_walk 5 3 0 0 _ _ a b c w (by omega) (by omega) run_op5
  rw [show Hps.okCm ⟨5, a, b, c⟩ = (Hps.inR a 0 3 && Hps.inR b 0 0 && Hps.inR c 0 0) by simp [Hps.okCm, Hps.inR_zero]]
  exact this

theorem operationOf_6 (a b c : Int) (w : World) : Calls Try.prog 66 #[cmV ⟨6, a, b, c⟩] w fun e w' => e = .returned (.tuple #[op6, .bool (Hps.okCm ⟨6, a, b, c⟩)]) ∧ Below w.heap.size w w' := by
  have := operationOf_walk 6 3 99 0 _ _ a b c w (by omega) (by omega) run_op6
  rw [show Hps.okCm ⟨6, a, b, c⟩ = (Hps.inR a 0 3 && Hps.inR b 0 99 && Hps.inR c 0 0) by simp [Hps.okCm, Hps.inR_zero]]
  exact this

theorem Hps.okCm_none {o : Cm} (h : o.op < 1 ∨ 6 < o.op) : Hps.okCm o = false := by
  cases e : Hps.okCm o
  · rfl
  · have := Hps.okCm_op e
    omega
/-- the operation of whatever instruction -/
theorem operationOf_any (o : Cm) (w : World) : Calls Try.prog 66 #[cmV o] w fun e w' => (∃ p, e = .returned (.tuple #[p, .bool (Hps.okCm o)]) ∧ (p = opZ ∨ ∃ x y z f g, p = opA x y z f g)) ∧ Below w.heap.size w w' := by
  obtain ⟨op, a, b, c⟩ := o
  by_cases h : op < 1 ∨ 6 < op
  · refine (operationOf_bad ⟨op, a, b, c⟩ w h).mono ?_
    rintro e w1 ⟨rfl, b1⟩
    exact ⟨⟨_, by rw [Hps.okCm_none (o := ⟨op, a, b, c⟩) h], .inl rfl⟩, b1⟩
  · obtain rfl | rfl | rfl | rfl | rfl | rfl : op = 1 ∨ op = 2 ∨ op = 3 ∨ op = 4 ∨ op = 5 ∨ op = 6 := by omega
    · exact (operationOf_1 a b c w).mono fun _ _ h => ⟨⟨_, h.1, .inr ⟨_, _, _, _, _, rfl⟩⟩, h.2⟩
    · exact (operationOf_2 a b c w).mono fun _ _ h => ⟨⟨_, h.1, .inr ⟨_, _, _, _, _, rfl⟩⟩, h.2⟩
    · exact (operationOf_3 a b c w).mono fun _ _ h => ⟨⟨_, h.1, .inr ⟨_, _, _, _, _, rfl⟩⟩, h.2⟩
    · exact (operationOf_4 a b c w).mono fun _ _ h => ⟨⟨_, h.1, .inr ⟨_, _, _, _, _, rfl⟩⟩, h.2⟩
    · exact (operationOf_5 a b c w).mono fun _ _ h => ⟨⟨_, h.1, .inr ⟨_, _, _, _, _, rfl⟩⟩, h.2⟩
    · exact (operationOf_6 a b c w).mono fun _ _ h => ⟨⟨_, h.1, .inr ⟨_, _, _, _, _, rfl⟩⟩, h.2⟩

set_option maxHeartbeats 1000000 in
theorem commandValid_any (o : Cm) (w : World) : Calls Try.prog 109 #[cmV o] w fun e w' => e = .returned (.bool (Hps.okCm o)) ∧ Below w.heap.size w w' := by
  have b1 : Below w.heap.size w (w.alloc (.cells #[.int .i64 o.op, .int .i64 o.a, .int .i64 o.b, .int .i64 o.c] 36)) := (Below.refl _ _).alloc (Nat.le_refl _) _
  obtain ⟨r, hr⟩ : ∃ r, Hps.okCm o = r := ⟨_, rfl⟩
  go_enter Try.func109, Try.ntmps109
  go_wp2_with fail
  refine (operationOf_any o _).mono ?_
  rw [hr]
  have HR := Lib.hid hr
  clear hr
  rintro e w1 ⟨⟨p, rfl, hp⟩, b2⟩
  have b3 := b1.trans (b2.mono b1.size)
  have hs := b3.size
  clear b1 b2
  rcases hp with rfl | ⟨x, y, z, f, g, rfl⟩
  · go_wp2_with fail
    go_ret
    exact ⟨by rw [HR.out]; rfl, b3.alloc hs _⟩
  · go_wp2_with fail
    go_ret
    exact ⟨by rw [HR.out]; rfl, b3.alloc hs _⟩

set_option maxHeartbeats 1000000 in
theorem commandsValid_any (A : Option Addr) (n c : Nat) (l : List Cm) (w : World) (h : MS w w.heap.size A n l) (hn : n ≤ 1099511627776) (_hc : n ≤ c) :
    Calls Try.prog 62 #[.slice A n c] w fun e w' => e = .returned (.bool (Hps.okCms l)) ∧ Below w.heap.size w w' := by
  have HL := Lib.hid h.1
  by_cases h40 : n ≤ 40
  case neg =>
    have d40 : decide ((40 : Int) < (n : Int)) = true := decide_eq_true (by omega)
    have R := Lib.hid (show Hps.okCms l = false by
      cases hh : Hps.okCms l
      · rfl
      · have := (Hps.okCms_iff.1 hh).2
        rw [HL.out] at this
        omega)
    go_enter Try.func62, Try.ntmps62
    go_wp2_with fail
    go_ret
    exact ⟨by rw [R.out]; rfl, Below.refl _ _⟩
  have d40 : decide ((40 : Int) < (n : Int)) = false := decide_eq_false (by omega)
  go_enter Try.func62, Try.ntmps62
  go_wp2_with fail
  go_loopw [10] (fun i wr => ∃ k : Nat, k ≤ n ∧ i = .int .i64 k ∧ Hid (∀ j o, j < k → l[j]? = some o → Hps.okCm o = true) ∧ Below w.heap.size w wr) (fun i _ => n - (intOf i).toNat)
  case atStart => exact ⟨0, Nat.zero_le _, rfl, Lib.hid (fun j x hj => by omega), Below.refl _ _⟩
  case round =>
    obtain ⟨k, hk, rfl, HP, bb⟩ := hrel
    by_cases hlt : k < n
    · obtain ⟨g, o, x, rfl, hg, hx, c0, c1, c2, c3⟩ := (h.below bb).at_ hlt
      have hlt' : (k : Int) < n := by omega
      have HX := Lib.hid hx
      have ba : Below w.heap.size w (wr.alloc (.cells #[.int .i64 x.op, .int .i64 x.a, .int .i64 x.b, .int .i64 x.c] 36)) := bb.alloc bb.size _
      clear hx
      go_wp2_with fail
      refine (commandValid_any x _).mono ?_
      cases he : Hps.okCm x
      · have R := Lib.hid (show Hps.okCms l = false by
          cases hh : Hps.okCms l
          · rfl
          · rw [(Hps.okCms_iff.1 hh).1 x (List.mem_of_getElem? HX.out)] at he
            cases he)
        rintro e w1 ⟨rfl, b1⟩
        have b2 := ba.trans (b1.mono ba.size)
        clear he
        go_wp2_with fail
        go_ret
        exact ⟨by rw [R.out]; rfl, b2⟩
      · have HN : Hid (∀ j y, j < k + 1 → l[j]? = some y → Hps.okCm y = true) := Lib.hid fun j y hj hy => by
          rcases Nat.lt_or_ge j k with h1 | h1
          · exact HP.out j y h1 hy
          · obtain rfl : j = k := by omega
            rw [HX.out] at hy
            have hy := Option.some.inj hy
            rw [← hy]
            exact he
        rintro e w1 ⟨rfl, b1⟩
        have b2 := ba.trans (b1.mono ba.size)
        clear he
        go_wp2_with fail
        go_roundw
        case rel => exact ⟨k + 1, by omega, by go_num, HN, b2⟩
        case measure => simp [intOf]; omega
    · obtain rfl : k = n := by omega
      have R := Lib.hid (show Hps.okCms l = true by
        refine Hps.okCms_iff.2 ⟨fun x hx => ?_, by rw [HL.out]; exact h40⟩
        obtain ⟨j, hj⟩ := List.mem_iff_getElem?.1 hx
        exact HP.out j x (by rw [← HL.out]; exact (List.getElem?_eq_some_iff.1 hj).1) hj)
      go_wp2_with fail
      go_ret
      exact ⟨by rw [R.out]; rfl, bb⟩
end Go.Proofs.Ytmjejcfifkbkoaa
