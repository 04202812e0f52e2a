/- What the claim DEStepSweep stands on, part 4 of 4: texts of one seat put together, with what the claim needs of them. No conditions. -/
import Derived.Test.YthmddmddcdofaaaDoorShHc
namespace Go.Proofs.YthmddmddcdofaaaDoor
open Go.RowKit
set_option maxRecDepth 100000
set_option maxHeartbeats 4000000 in
theorem sweeperNew_any (E : KeptL) (w0 w : World) (b : Nat) (vc vr : Value) (rvs : List Value) (h : Hp) (limit : Int) {a ob : Nat} {oc : Int} (hT : TzT w0) (S : SwSt E w0 w b vc vr rvs h) (hv : Hps.validH h = true) (ha : a < 4) (hb3 : ob ≤ 3) :
    Calls Tryd.prog 127 #[.pointer (some ⟨b, 0, none⟩), cmV ⟨1, a, ob, oc⟩, .int .i64 limit] w fun e w' => e = .returned (.bool (decide ((Hps.gapH (Hps.roomS h limit) : Int) < limit))) ∧ ∃ vc' vr' rvs', SwSt E w0 w' b vc' vr' rvs' (if (Hps.gapH (Hps.roomS h limit) : Int) < limit then Hps.doH (Hps.roomS h limit) ⟨1, a, ob, oc⟩ (Hps.gapH (Hps.roomS h limit)) else Hps.roomS h limit) := by
  have S1 : SwSt ((w.heap.size, 49, #[.int .i64 1, .int .i64 a, .int .i64 ob, .int .i64 oc]) :: E) w0 (w.alloc (.cells #[.int .i64 1, .int .i64 a, .int .i64 ob, .int .i64 oc] 49)) b vc vr rvs h := S.more
  obtain ⟨q, hq⟩ : ∃ q, w.heap.size = q := ⟨_, rfl⟩
  rw [hq] at S1
  have HMK := Lib.hid (fun w1 (S : SwSt ((q, 49, #[.int .i64 1, .int .i64 a, .int .i64 ob, .int .i64 oc]) :: E) w0 w1 b vc vr rvs h) => makeRoom_any ((q, 49, #[.int .i64 1, .int .i64 a, .int .i64 ob, .int .i64 oc]) :: E) w0 w1 b vc vr rvs h limit hT S hv)
  obtain ⟨X, hX⟩ : ∃ X, Hps.roomS h limit = X := ⟨_, rfl⟩
  have HVX := Lib.hid (show Hps.validH X = true by
    rw [← hX, Hps.roomS]
    split
    · exact hv
    · exact Hps.swept_valid hv)
  rw [hX] at HMK ⊢
  obtain ⟨p, hp⟩ : ∃ p, Hps.gapH X = p := ⟨_, rfl⟩
  have HP := Lib.hid hp
  have hpl : p ≤ X.cs.length := by rw [← hp]; exact Hps.gapH_le X
  have HPL := Lib.hid hpl
  rw [hp] at HMK ⊢
  have HQ := Lib.hid hq
  obtain ⟨r, hr⟩ : ∃ r, decide ((p : Int) < limit) = r := ⟨_, rfl⟩
  obtain ⟨Y, hY⟩ : ∃ Y, (if (p : Int) < limit then Hps.doH X ⟨1, a, ob, oc⟩ p else X) = Y := ⟨_, rfl⟩
  have HYT := Lib.hid (fun (e : r = true) => show Hps.doH X ⟨1, a, ob, oc⟩ p = Y by rw [← hY, if_pos (of_decide_eq_true (hr.trans e))])
  have HYF := Lib.hid (fun (e : r = false) => show X = Y by rw [← hY, if_neg (of_decide_eq_false (hr.trans e))])
  rw [hr] at HMK ⊢
  rw [hY]
  clear hX hp hq hv S hT hpl hr hY
  go_enter Tryd.func127, Tryd.ntmps127
  go_upto_region 1 with fail
  rw [HQ.out]
  generalize w.alloc (.cells #[.int .i64 1, .int .i64 a, .int .i64 ob, .int .i64 oc] 49) = w1 at S1 ⊢
  have SH := Lib.hid S1
  clear S1
  go_wp2_with fail
  refine (HMK.out _ SH.out).mono ?_
  rintro e w2 ⟨rfl, rv, S2⟩
  cases r
  · have S3 := S2.less.1
    rw [HYF.out (by simp)] at S3
    have S4 := Lib.hid S3
    clear S2 S3 SH
    go_wp2_with fail
    go_ret
    exact ⟨rfl, _, _, _, S4.out⟩
  have SS := Lib.hid S2
  clear S2 SH
  go_upto_region 3 with fail
  refine wp_region_inv (by kernel_rfl) (by kernel_rfl) (fun L ac ww => ∃ t11 t12 t13 t14 t15 t16 t17 : Value, ac = { tmps := #[Value.pointer (some { block := b, off := 0 }), cmV { op := 1, a := ↑a, b := ↑ob, c := oc }, Value.int IntKind.i64 limit, undef, Value.pointer (some { block := q, off := 0 }), undef, Value.bool false, Value.pointer (some { block := b, off := 0 }), Value.int IntKind.i64 limit, Value.bool true, Value.bool false, t11, t12, t13, t14, t15, t16, t17], defers := [] } ∧ (L 5 = false → SwSt ((q, 49, #[.int .i64 1, .int .i64 a, .int .i64 ob, .int .i64 oc]) :: E) w0 ww b vc vr rv X) ∧ (L 5 = true → L 6 = false → SwFs ((q, 49, #[.int .i64 1, .int .i64 a, .int .i64 ob, .int .i64 oc]) :: E) w0 ww b vc vr rv X (Hps.gapsL X.cs).tail) ∧ (L 0 = true → t11 = cmV ⟨1, a, ob, oc⟩) ∧ (L 1 = true → t12 = .pointer (some ⟨b, 0, none⟩)) ∧ (L 2 = true → t13 = .pointer (some ⟨b, 0, none⟩)) ∧ (L 3 = true → t14 = .pointer (some ⟨b, 0, none⟩)) ∧ (L 4 = true → t15 = .pointer (some ⟨b, 0, none⟩)) ∧ (L 5 = true → t16 = .int .i64 p) ∧ (L 6 = true → L 0 = true ∧ L 5 = true ∧ ∃ vc5 vr5 rv5, SwFs ((q, 49, #[.int .i64 1, .int .i64 a, .int .i64 ob, .int .i64 oc]) :: E) w0 ww b vc5 vr5 rv5 (Hps.doH X ⟨1, a, ob, oc⟩ p) (Hps.gapsL X.cs).tail)) ?h0 ?hstep ?hdone
  case h0 => exact ⟨_, _, _, _, _, _, _, rfl, fun _ => SS.out.up (Below.refl _ _).drew, fun h => absurd h Bool.false_ne_true, (fun h => absurd h Bool.false_ne_true), (fun h => absurd h Bool.false_ne_true), (fun h => absurd h Bool.false_ne_true), (fun h => absurd h Bool.false_ne_true), (fun h => absurd h Bool.false_ne_true), (fun h => absurd h Bool.false_ne_true), (fun h => absurd h Bool.false_ne_true)⟩
  case hstep =>
    rintro L ac ww i o ho hL hd ⟨t11, t12, t13, t14, t15, t16, t17, rfl, I0, I1, f0, f1, f2, f3, f4, f5, f6⟩
    have hi : i < 7 := (Array.getElem?_eq_some_iff.1 ho).1
    obtain rfl | rfl | rfl | rfl | rfl | rfl | rfl : i = 0 ∨ i = 1 ∨ i = 2 ∨ i = 3 ∨ i = 4 ∨ i = 5 ∨ i = 6 := by omega
    · obtain rfl := Option.some.inj ho
      have QR : Rw ww q 49 #[.int .i64 1, .int .i64 a, .int .i64 ob, .int .i64 oc] := by
        cases e5 : L 5
        · exact (I0 e5).less.2
        · cases e6 : L 6
          · exact (I1 e5 e6).less.2
          · exact absurd (f6 e6).1 (by rw [hL]; decide)
      have z0 : ww.cell? ⟨q, 0, none⟩ = some (.int .i64 1) := QR.cell 0
      have z1 : ww.cell? ⟨q, 1, none⟩ = some (.int .i64 a) := QR.cell 1
      have z2 : ww.cell? ⟨q, 2, none⟩ = some (.int .i64 ob) := QR.cell 2
      have z3 : ww.cell? ⟨q, 3, none⟩ = some (.int .i64 oc) := QR.cell 3
      refine wpOp_step rfl (fun K' hK => ?_)
      go_simp
      refine hK _ _ ?_
      exact ⟨_, _, _, _, _, _, _, rfl, (fun h => I0 (by rw [upd_other (by decide)] at h; exact h)), (fun h h6 => I1 (by rw [upd_other (by decide)] at h; exact h) (by rw [upd_other (by decide)] at h6; exact h6)), (fun _ => rfl), (kp f1), (kp f2), (kp f3), (kp f4), (kp f5), (fun h => ⟨upd_mono (f6 (upd_ne h (by decide))).1, upd_mono (f6 (upd_ne h (by decide))).2.1, (f6 (upd_ne h (by decide))).2.2⟩)⟩
    · obtain rfl := Option.some.inj ho
      refine wpOp_step rfl (fun K' hK => ?_)
      go_simp
      refine hK _ _ ?_
      exact ⟨_, _, _, _, _, _, _, rfl, (fun h => I0 (by rw [upd_other (by decide)] at h; exact h)), (fun h h6 => I1 (by rw [upd_other (by decide)] at h; exact h) (by rw [upd_other (by decide)] at h6; exact h6)), (kp f0), (fun _ => rfl), (kp f2), (kp f3), (kp f4), (kp f5), (fun h => ⟨upd_mono (f6 (upd_ne h (by decide))).1, upd_mono (f6 (upd_ne h (by decide))).2.1, (f6 (upd_ne h (by decide))).2.2⟩)⟩
    · obtain rfl := Option.some.inj ho
      have g1 := f1 (hd ⟨1, .data⟩ (by simp) rfl)
      subst g1
      refine wpOp_step rfl (fun K' hK => ?_)
      go_simp
      refine hK _ _ ?_
      exact ⟨_, _, _, _, _, _, _, rfl, (fun h => I0 (by rw [upd_other (by decide)] at h; exact h)), (fun h h6 => I1 (by rw [upd_other (by decide)] at h; exact h) (by rw [upd_other (by decide)] at h6; exact h6)), (kp f0), (kp f1), (fun _ => rfl), (kp f3), (kp f4), (kp f5), (fun h => ⟨upd_mono (f6 (upd_ne h (by decide))).1, upd_mono (f6 (upd_ne h (by decide))).2.1, (f6 (upd_ne h (by decide))).2.2⟩)⟩
    · obtain rfl := Option.some.inj ho
      have g2 := f2 (hd ⟨2, .data⟩ (by simp) rfl)
      subst g2
      refine wpOp_step rfl (fun K' hK => ?_)
      go_simp
      refine hK _ _ ?_
      exact ⟨_, _, _, _, _, _, _, rfl, (fun h => I0 (by rw [upd_other (by decide)] at h; exact h)), (fun h h6 => I1 (by rw [upd_other (by decide)] at h; exact h) (by rw [upd_other (by decide)] at h6; exact h6)), (kp f0), (kp f1), (kp f2), (fun _ => rfl), (kp f4), (kp f5), (fun h => ⟨upd_mono (f6 (upd_ne h (by decide))).1, upd_mono (f6 (upd_ne h (by decide))).2.1, (f6 (upd_ne h (by decide))).2.2⟩)⟩
    · obtain rfl := Option.some.inj ho
      refine wpOp_step rfl (fun K' hK => ?_)
      go_simp
      refine hK _ _ ?_
      exact ⟨_, _, _, _, _, _, _, rfl, (fun h => I0 (by rw [upd_other (by decide)] at h; exact h)), (fun h h6 => I1 (by rw [upd_other (by decide)] at h; exact h) (by rw [upd_other (by decide)] at h6; exact h6)), (kp f0), (kp f1), (kp f2), (kp f3), (fun _ => rfl), (kp f5), (fun h => ⟨upd_mono (f6 (upd_ne h (by decide))).1, upd_mono (f6 (upd_ne h (by decide))).2.1, (f6 (upd_ne h (by decide))).2.2⟩)⟩
    · obtain rfl := Option.some.inj ho
      have g4 := f4 (hd ⟨4, .data⟩ (by simp) rfl)
      subst g4
      refine wpOp_step rfl (fun K' hK => ?_)
      go_simp
      refine (takePlace_any _ w0 ww b vc vr rv X (I0 hL)).mono ?_
      rw [HP.out]
      rintro e w' ⟨rfl, S5, -⟩
      refine hK _ _ ?_
      exact ⟨_, _, _, _, _, _, _, rfl, (fun h => absurd h (by rw [upd_self]; decide)), (fun _ _ => S5), (kp f0), (kp f1), (kp f2), (kp f3), (kp f4), (fun _ => rfl), (fun h => absurd (f6 (upd_ne h (by decide))).2.1 (by rw [hL]; decide))⟩
    · obtain rfl := Option.some.inj ho
      have g0 := f0 (hd ⟨0, .data⟩ (by simp) rfl)
      have g3 := f3 (hd ⟨3, .data⟩ (by simp) rfl)
      have g5 := f5 (hd ⟨5, .data⟩ (by simp) rfl)
      subst g0
      subst g3
      subst g5
      have l0 := Lib.hid (hd ⟨0, .data⟩ (by simp) rfl)
      have l5 := Lib.hid (hd ⟨5, .data⟩ (by simp) rfl)
      obtain ⟨ve, B⟩ := I1 l5.out hL
      refine wpOp_step rfl (fun K' hK => ?_)
      go_simp
      refine (newCellAt_any (oc := oc) HVX.out ha hb3 HPL.out _ _ w0 ww b vc vr rv B).mono ?_
      rintro e w' ⟨⟨ev, rfl⟩, vc5, vr5, rv5, B5⟩
      refine hK _ _ ?_
      exact ⟨_, _, _, _, _, _, _, rfl, (fun h => absurd l5.out (by rw [upd_other (by decide)] at h; rw [h]; decide)), (fun _ h => absurd h (by rw [upd_self]; decide)), (kp f0), (kp f1), (kp f2), (kp f3), (kp f4), (kp f5), (fun _ => ⟨upd_mono l0.out, upd_mono l5.out, vc5, vr5, rv5, ve, B5⟩)⟩
  case hdone =>
    rintro L ac ww hall ⟨t11, t12, t13, t14, t15, t16, t17, rfl, I0, I1, f0, f1, f2, f3, f4, f5, f6⟩
    have e0 := f0 (hall 0 (by decide))
    have e1 := f1 (hall 1 (by decide))
    have e2 := f2 (hall 2 (by decide))
    have e3 := f3 (hall 3 (by decide))
    have e4 := f4 (hall 4 (by decide))
    have e5 := f5 (hall 5 (by decide))
    have e6 := f6 (hall 6 (by decide))
    clear f0 f1 f2 f3 f4 f5 f6
    obtain ⟨-, -, vc5, vr5, rv5, S5⟩ := e6
    have S6 := S5.less.1
    have HG := Hps.gaps_new (h := X) (o := ⟨1, a, ob, oc⟩) rfl
    rw [HP.out] at HG
    rw [← HG, HYT.out (by simp)] at S6
    have S7 := Lib.hid S6
    clear I0 I1 e0 e1 e2 e3 e4 e5 hall S5 S6 HG
    go_wp2_with fail
    go_ret
    exact ⟨rfl, _, _, _, S7.out⟩
set_option maxHeartbeats 4000000 in
theorem sweeperStep_walk (f g : Nat) (x y z : Int) (E : KeptL) (w0 w : World) (b : Nat) (vc vr : Value) (rvs : List Value) (h : Hp) (o : Cm) (limit : Int) (S : SwSt E w0 w b vc vr rvs h) (hv : Hps.validH h = true) (ho : Hps.okCm o = true) (h1 : o.op ≠ 1)
    (hop : ∀ w, Calls Tryd.prog 91 #[cmV o] w fun e w' => e = .returned (.tuple #[opA x y z f g, .bool (Hps.okCm o)]) ∧ Below w.heap.size w w') (hf : Hps.validH h = true → Hps.okCm o = true → PossF f o h) (hg : Hps.canH h o = true → ExecF g o h)
    (hen : ∀ args w, (callFunc f args).run Tryd.prog w = .ok (.enter f args) w) (hen2 : ∀ args w, (callFunc g args).run Tryd.prog w = .ok (.enter g args) w) :
    Calls Tryd.prog 85 #[.pointer (some ⟨b, 0, none⟩), cmV o, .int .i64 limit] w fun e w' => e = .returned (.bool (Hps.canH h o)) ∧ ∃ vc' vr' rvs', SwSt E w0 w' b vc' vr' rvs' (if Hps.canH h o = true then Hps.doH h o h.cs.length else h) := by
  have HP0 := Lib.hid (hf hv ho)
  have HG := Lib.hid hg
  have HO := Lib.hid hop
  have HE := Lib.hid hen
  have HE2 := Lib.hid hen2
  rw [ho] at HO
  have h40 := (Hps.valid_iff.1 hv).2.1
  have hr4 := (Hps.valid_iff.1 hv).2.2.1
  obtain ⟨A, c, R, d, rfl, rfl, hc, hd, -⟩ := S.own.form
  obtain ⟨n, hn⟩ : ∃ n, h.cs.length = n := ⟨_, rfl⟩
  rw [hn, hr4] at S
  rw [hn] at hc h40
  rw [hr4] at hd
  have hop1 : (o.op == 1) = false := by rw [beq_eq_false_iff_ne]; exact h1
  obtain ⟨r, hr⟩ : ∃ r, Hps.canH h o = r := ⟨_, rfl⟩
  obtain ⟨Y, hY⟩ : ∃ Y, (if Hps.canH h o = true then Hps.doH h o h.cs.length else h) = Y := ⟨_, rfl⟩
  have HYT := Lib.hid (fun (e : r = true) => show Hps.doH h o h.cs.length = Y by rw [← hY, if_pos (hr.trans e)])
  have HYF := Lib.hid (fun (e : r = false) => show h = Y by rw [← hY, if_neg (by rw [hr, e]; decide)])
  have HR := Lib.hid hr
  rw [hY]
  rw [hr] at HG ⊢
  clear hr hY
  have HGO := Lib.hid (fun p => Hps.gaps_other (h := h) (o := o) (p := p) h1)
  have bA : Below w.heap.size w (w.alloc (.cells #[.int .i64 o.op, .int .i64 o.a, .int .i64 o.b, .int .i64 o.c] 49)) := (Below.refl _ _).alloc (Nat.le_refl _) _
  have Q := Rw.new w 49 #[.int .i64 o.op, .int .i64 o.a, .int .i64 o.b, .int .i64 o.c]
  have S1 := S.up bA
  clear hf hg hop hen hen2 hv ho hr4 S bA h1
  go_enter Tryd.func85, Tryd.ntmps85
  go_upto_region 1 with fail
  generalize w.alloc (.cells #[.int .i64 o.op, .int .i64 o.a, .int .i64 o.b, .int .i64 o.c] 49) = w1 at S1 Q ⊢
  generalize w.heap.size = q at Q ⊢
  have y0 : w1.cell? ⟨q, 0, none⟩ = some (.int .i64 o.op) := Q.cell 0
  have y1 : w1.cell? ⟨q, 1, none⟩ = some (.int .i64 o.a) := Q.cell 1
  have y2 : w1.cell? ⟨q, 2, none⟩ = some (.int .i64 o.b) := Q.cell 2
  have y3 : w1.cell? ⟨q, 3, none⟩ = some (.int .i64 o.c) := Q.cell 3
  go_wp2_with fail
  refine (HO.out _).mono ?_
  rintro e w2 ⟨rfl, b1⟩
  have bB : Below w2.heap.size w2 (w2.alloc (.cells #[.int .i64 x, .int .i64 y, .int .i64 z, .func (.func f) #[] #[], .func (.func g) #[] #[]] 122)) := (Below.refl _ _).alloc (Nat.le_refl _) _
  replace Q := (Q.keep b1 Q.lt).alloc (.cells #[.int .i64 x, .int .i64 y, .int .i64 z, .func (.func f) #[] #[], .func (.func g) #[] #[]] 122)
  have QP := Rw.new w2 122 #[.int .i64 x, .int .i64 y, .int .i64 z, .func (.func f) #[] #[], .func (.func g) #[] #[]]
  have S2 := (S1.up b1).up bB
  clear S1 b1 bB y0 y1 y2 y3
  go_upto_region 4 with fail
  generalize w2.alloc (.cells #[.int .i64 x, .int .i64 y, .int .i64 z, .func (.func f) #[] #[], .func (.func g) #[] #[]] 122) = w3 at S2 Q QP ⊢
  generalize w2.heap.size = g5 at QP ⊢
  have y0 : w3.cell? ⟨q, 0, none⟩ = some (.int .i64 o.op) := Q.cell 0
  have y1 : w3.cell? ⟨q, 1, none⟩ = some (.int .i64 o.a) := Q.cell 1
  have y2 : w3.cell? ⟨q, 2, none⟩ = some (.int .i64 o.b) := Q.cell 2
  have y3 : w3.cell? ⟨q, 3, none⟩ = some (.int .i64 o.c) := Q.cell 3
  have z3 : w3.cell? ⟨g5, 3, none⟩ = some (.func (.func f) #[] #[]) := QP.cell 3
  have x0 : w3.cell? ⟨b, 0, none⟩ = some (.slice A n c) := S2.c0
  have x1 : w3.cell? ⟨b, 1, none⟩ = some (.slice R 4 d) := S2.c1
  have SS := Lib.hid S2
  have QQ := Lib.hid Q
  have QQP := Lib.hid QP
  clear S2 Q QP
  go_still_tail 7, (by kernel_rfl)
  change wpList _ _ _ _ _ w3.drew
  have S4 := Lib.hid (SS.out.up (Below.refl _ _).drew)
  have Q4 := Lib.hid (QQ.out.keep (Below.refl _ w3).drew QQ.out.lt)
  have QP4 := Lib.hid (QQP.out.keep (Below.refl _ w3).drew QQP.out.lt)
  generalize w3.drew = w4 at S4 Q4 QP4 ⊢
  clear y0 y1 y2 y3 z3 x0 x1 SS QQ QQP
  have hen := HE.out
  go_wp2_with fail
  clear hen
  refine (HP0.out A R n c 4 d w4 S4.out.own.reads (by omega) (by omega) hc hd).mono ?_
  rw [HR.out]
  rintro e w5 ⟨rfl, b5⟩
  have S5 := S4.out.up b5
  have Q5 := Q4.out.keep b5 Q4.out.lt
  have QP5 := QP4.out.keep b5 QP4.out.lt
  clear S4 Q4 QP4 b5
  cases r
  · rw [HYF.out (by simp)] at S5
    have SF := Lib.hid S5
    clear S5 Q5 QP5
    go_wp2_with fail
    go_ret
    exact ⟨rfl, _, _, _, SF.out⟩
  have y0 : w5.cell? ⟨q, 0, none⟩ = some (.int .i64 o.op) := Q5.cell 0
  have y1 : w5.cell? ⟨q, 1, none⟩ = some (.int .i64 o.a) := Q5.cell 1
  have y2 : w5.cell? ⟨q, 2, none⟩ = some (.int .i64 o.b) := Q5.cell 2
  have y3 : w5.cell? ⟨q, 3, none⟩ = some (.int .i64 o.c) := Q5.cell 3
  have z4 : w5.cell? ⟨g5, 4, none⟩ = some (.func (.func g) #[] #[]) := QP5.cell 4
  have SS := Lib.hid S5
  clear S5 Q5 QP5
  go_upto_region 6 with fail
  go_still_tail 6, (by kernel_rfl)
  change wpList _ _ _ _ _ w5.drew
  obtain ⟨ve, B⟩ := SS.out.up (Below.refl _ _).drew
  have BH := Lib.hid B
  generalize w5.drew = w6 at BH ⊢
  clear y0 y1 y2 y3 z4 SS B
  have hen2 := HE2.out
  go_wp2_with fail
  clear hen2
  refine (HG.out (by simp) _ _ _ _ _ _ _ _ BH.out).mono ?_
  rintro e w8 ⟨⟨ev, rfl⟩, vc', vr', rvs', B8⟩
  have S7 : SwSt E w0 w8 b vc' vr' rvs' (Hps.doH h o h.cs.length) := ⟨ve, by rw [HGO.out]; exact B8⟩
  rw [HYT.out (by simp)] at S7
  have S8 := Lib.hid S7
  clear B8 S7
  go_wp2_with fail
  go_ret
  exact ⟨rfl, _, _, _, S8.out⟩
end Go.Proofs.YthmddmddcdofaaaDoor

namespace Go.Proofs.YthmddmddcdofaaaDoor
open Go.RowKit
set_option maxRecDepth 100000
namespace Hps
end Hps
end Go.Proofs.YthmddmddcdofaaaDoor

namespace Go.Proofs.YthmddmddcdofaaaDoor
open Go.RowKit
set_option maxRecDepth 100000
namespace Hps
end Hps
end Go.Proofs.YthmddmddcdofaaaDoor

namespace Go.Proofs.YthmddmddcdofaaaDoor
open Go.RowKit
set_option maxRecDepth 100000
namespace Hps
end Hps
end Go.Proofs.YthmddmddcdofaaaDoor

namespace Go.Proofs.YthmddmddcdofaaaDoor
open Go.RowKit
set_option maxRecDepth 100000
end Go.Proofs.YthmddmddcdofaaaDoor

namespace Go.Proofs.YthmddmddcdofaaaDoor
open Go.RowKit
set_option maxRecDepth 100000
end Go.Proofs.YthmddmddcdofaaaDoor

namespace Go.Proofs.YthmddmddcdofaaaDoor
open Go.RowKit
set_option maxRecDepth 100000
namespace Hps
theorem gap_at {h : Hp} {k : Nat} (hk : k < h.cs.length) (hu : usedAt h.cs k = false) (hb : ∀ j, j < k → usedAt h.cs j = true) : gapH h = k := by
  rcases gapH_cases h with ⟨e1, e2⟩ | ⟨e1, e2, e3⟩
  · have := e2 k hk
    rw [hu] at this
    cases this
  · rcases Nat.lt_trichotomy (gapH h) k with q | q | q
    · have := hb _ q
      rw [e2] at this
      cases this
    · exact q
    · have := e3 k q
      rw [hu] at this
      cases this
theorem gap_end {h : Hp} (hb : ∀ j, j < h.cs.length → usedAt h.cs j = true) : gapH h = h.cs.length := by
  rcases gapH_cases h with ⟨e1, _⟩ | ⟨e1, e2, _⟩
  · exact e1
  · have := hb _ e1
    rw [e2] at this
    cases this
theorem usedAt_of {cs : List Cl} {k : Nat} {c : Cl} (hc : cs[k]? = some c) : usedAt cs k = c.u := by rw [usedAt, hc]
end Hps
set_option maxHeartbeats 4000000 in
theorem mPlace_any (A R : Option Addr) (n c m d : Nat) (h : Hp) (w : World) (hs : HS w w.heap.size A n R m h) (hn : n ≤ 1099511627776) :
    Calls Tryd.prog 89 #[heapV A n c R m d] w fun e w' => e = .returned (.int .i64 (Hps.gapH h)) ∧ Below w.heap.size w w' := by
  have b0 : Below w.heap.size w (w.alloc (.cells #[.slice A n c, .slice R m d] 26)) := (Below.refl _ _).alloc (Nat.le_refl _) _
  have r0 := hs.up b0
  have q0 := Rw.new w 26 #[.slice A n c, .slice R m d]
  have hlc := hs.cells.1
  have HLC := Lib.hid hlc
  clear hlc
  go_enter Tryd.func89, Tryd.ntmps89
  go_wp2_with fail
  generalize w.alloc (.cells #[.slice A n c, .slice R m d] 26) = w0 at b0 r0 q0 ⊢
  go_loopw [3] (fun i wr => ∃ k : Nat, k ≤ n ∧ i = .int .i64 k ∧ Hid (∀ j, j < k → Hps.usedAt h.cs j = true) ∧ wr = w0) (fun i _ => n - (intOf i).toNat)
  case atStart => exact ⟨0, Nat.zero_le _, rfl, Lib.hid (fun j hj => by omega), rfl⟩
  case round =>
    obtain ⟨k, hk, rfl, hpre, rfl⟩ := hrel
    have x0 : wr.cell? ⟨w.heap.size, 0, none⟩ = some (.slice A n c) := q0.cell 0
    by_cases hlt : k < n
    · obtain ⟨g, o, cl, A', m', cc, e1, hg, hcl, d1, _, _, _, _⟩ := (hs.cells.below b0).at_ hlt
      subst e1
      have hlt' : (k : Int) < n := by omega
      have HU := Lib.hid (Hps.usedAt_of hcl)
      have HC := Lib.hid hcl
      clear hcl
      cases hu : cl.u <;> rw [hu] at d1 HU
      · have HG := Lib.hid (Hps.gap_at (h := h) (k := k) (by rw [HLC.out]; exact hlt) HU.out hpre.out)
        clear hu
        go_wp2_with fail
        go_ret
        exact ⟨by rw [HG.out]; rfl, b0⟩
      · clear hu
        go_wp2_with fail
        go_roundw
        case rel => exact ⟨k + 1, by omega, by go_num, Lib.hid (fun j hj => by
          rcases Nat.lt_or_ge j k with h1 | h1
          · exact hpre.out j h1
          · obtain rfl : j = k := by omega
            exact HU.out), trivial⟩
        case measure => simp [intOf]; omega
    · obtain rfl : k = n := by omega
      have HG := Lib.hid (show Hps.gapH h = k by rw [← HLC.out]; exact Hps.gap_end (by rw [HLC.out]; exact hpre.out))
      go_wp2_with fail
      go_ret
      exact ⟨by rw [HG.out]; rfl, b0⟩
end Go.Proofs.YthmddmddcdofaaaDoor

namespace Go.Proofs.YthmddmddcdofaaaDoor
open Go.RowKit
set_option maxRecDepth 100000
theorem OwnH.parts {w : World} {base : Nat} {vc vr : Value} {h : Hp} (ho : OwnH w base vc vr h) : ∃ A n c R m d, vc = .slice A n c ∧ vr = .slice R m d ∧ HS w w.heap.size A n R m h := by
  obtain ⟨A, c, R, d, e1, e2, s⟩ := ho.form
  exact ⟨A, _, c, R, _, d, e1, e2, s⟩
set_option maxHeartbeats 8000000 in
theorem mStepSweep_any (A R : Option Addr) (n c m d : Nat) (lim : Int) (h : Hp) (o : Cm) (w : World) (hs : HS w w.heap.size A n R m h) (hn : n ≤ 1099511627776) (hm : m ≤ 1099511627776) :
    Calls Tryd.prog 37 #[heapV A n c R m d, .int .i64 lim, cmV o] w (GaveH2 w (Hps.stepSw h lim o).1 (Hps.stepSw h lim o).2) := by
  have b2 : Below w.heap.size w (((w.alloc (.cells #[.slice A n c, .slice R m d] 26)).alloc (.cells #[.int .i64 o.op, .int .i64 o.a, .int .i64 o.b, .int .i64 o.c] 49)).alloc (.cells #[.slice none 0 0, .slice none 0 0] 26)) := (((Below.refl w.heap.size w).alloc (Nat.le_refl _) _).alloc (by simp) _).alloc (by simp; omega) _
  have s2 := hs.up b2
  have q1 := ((Rw.new w 26 #[.slice A n c, .slice R m d]).alloc (.cells #[.int .i64 o.op, .int .i64 o.a, .int .i64 o.b, .int .i64 o.c] 49)).alloc (.cells #[.slice none 0 0, .slice none 0 0] 26)
  have q2 := (Rw.new (w.alloc (.cells #[.slice A n c, .slice R m d] 26)) 49 #[.int .i64 o.op, .int .i64 o.a, .int .i64 o.b, .int .i64 o.c]).alloc (.cells #[.slice none 0 0, .slice none 0 0] 26)
  have q3 := Rw.new ((w.alloc (.cells #[.slice A n c, .slice R m d] 26)).alloc (.cells #[.int .i64 o.op, .int .i64 o.a, .int .i64 o.b, .int .i64 o.c] 49)) 26 #[.slice none 0 0, .slice none 0 0]
  simp only [World.size_alloc] at q2 q3
  go_enter Tryd.func37, Tryd.ntmps37
  go_upto_region 1 with fail
  generalize ((w.alloc (.cells #[.slice A n c, .slice R m d] 26)).alloc (.cells #[.int .i64 o.op, .int .i64 o.a, .int .i64 o.b, .int .i64 o.c] 49)).alloc (.cells #[.slice none 0 0, .slice none 0 0] 26) = w0 at b2 s2 q1 q2 q3 ⊢
  have x0 : w0.cell? ⟨w.heap.size, 0, none⟩ = some (.slice A n c) := q1.cell 0
  have x1 : w0.cell? ⟨w.heap.size, 1, none⟩ = some (.slice R m d) := q1.cell 1
  go_wp2_with fail
  refine (mHeapValid_any _ _ _ _ _ _ h _ s2 hn hm).mono ?_
  rintro e w1 ⟨rfl, b1⟩
  replace q1 := q1.keep b1 q1.lt
  replace q2 := q2.keep b1 q2.lt
  replace q3 := q3.keep b1 q3.lt
  replace b2 := b2.trans (b1.mono b2.size)
  clear b1
  clear s2 x0 x1
  cases hv : Hps.validH h
  · have HF := Lib.hid (Hps.stepSw_no (h := h) (limit := lim) (o := o) (by rw [hv]; simp))
    have r2 : (w1).frozen? ⟨w.heap.size + 1 + 1, 0, none⟩ = false := q3.frozen 0
    have r3 : (w1).frozen? ⟨w.heap.size + 1 + 1, 1, none⟩ = false := q3.frozen 1
    have r5 : (w1).cell? ⟨w.heap.size + 1 + 1, 0, none⟩ = some (.slice none 0 0) := q3.cell 0
    have r6 : (w1).cell? ⟨w.heap.size + 1 + 1, 1, none⟩ = some (.slice none 0 0) := q3.cell 1
    have q4 := (q3.put 0 (.slice none 0 0)).put 1 (.slice none 0 0)
    have r8 : (((w1).setCell ⟨w.heap.size + 1 + 1, 0, none⟩ (.slice none 0 0)).setCell ⟨w.heap.size + 1 + 1, 1, none⟩ (.slice none 0 0)).cell? ⟨w.heap.size + 1 + 1, 0, none⟩ = some (.slice none 0 0) := q4.cell 0
    have r9 : (((w1).setCell ⟨w.heap.size + 1 + 1, 0, none⟩ (.slice none 0 0)).setCell ⟨w.heap.size + 1 + 1, 1, none⟩ (.slice none 0 0)).cell? ⟨w.heap.size + 1 + 1, 1, none⟩ = some (.slice none 0 0) := q4.cell 1
    have D := Lib.hid ((own_zeroH w1 w1.heap.size (Nat.le_refl _)).out q3.lt b2 (Nat.le_trans (Nat.le_succ _) (Nat.le_succ _)))
    clear q1 q2 q3 q4 b2
    go_wp2_with fail
    exact bodyPost_ret (v := .tuple #[.agg #[.slice none 0 0, .slice none 0 0], .bool false]) (by simp [results, Tryd.results37, go_sem, *]) rfl ⟨_, _, by rw [HF.out], by rw [HF.out]; exact D.out.1, D.out.2⟩
  have z0 : w1.cell? ⟨w.heap.size + 1, 0, none⟩ = some (.int .i64 o.op) := q2.cell 0
  have z1 : w1.cell? ⟨w.heap.size + 1, 1, none⟩ = some (.int .i64 o.a) := q2.cell 1
  have z2 : w1.cell? ⟨w.heap.size + 1, 2, none⟩ = some (.int .i64 o.b) := q2.cell 2
  have z3 : w1.cell? ⟨w.heap.size + 1, 3, none⟩ = some (.int .i64 o.c) := q2.cell 3
  go_wp2_with fail
  refine (mCommandValid_any o _).mono ?_
  rintro e w3 ⟨rfl, b1⟩
  replace q1 := q1.keep b1 q1.lt
  replace q2 := q2.keep b1 q2.lt
  replace q3 := q3.keep b1 q3.lt
  replace b2 := b2.trans (b1.mono b2.size)
  clear b1
  clear z0 z1 z2 z3
  cases ho : Hps.okCm o
  · have HF := Lib.hid (Hps.stepSw_no (h := h) (limit := lim) (o := o) (by rw [ho]; simp))
    have r2 : (w3).frozen? ⟨w.heap.size + 1 + 1, 0, none⟩ = false := q3.frozen 0
    have r3 : (w3).frozen? ⟨w.heap.size + 1 + 1, 1, none⟩ = false := q3.frozen 1
    have r5 : (w3).cell? ⟨w.heap.size + 1 + 1, 0, none⟩ = some (.slice none 0 0) := q3.cell 0
    have r6 : (w3).cell? ⟨w.heap.size + 1 + 1, 1, none⟩ = some (.slice none 0 0) := q3.cell 1
    have q4 := (q3.put 0 (.slice none 0 0)).put 1 (.slice none 0 0)
    have r8 : (((w3).setCell ⟨w.heap.size + 1 + 1, 0, none⟩ (.slice none 0 0)).setCell ⟨w.heap.size + 1 + 1, 1, none⟩ (.slice none 0 0)).cell? ⟨w.heap.size + 1 + 1, 0, none⟩ = some (.slice none 0 0) := q4.cell 0
    have r9 : (((w3).setCell ⟨w.heap.size + 1 + 1, 0, none⟩ (.slice none 0 0)).setCell ⟨w.heap.size + 1 + 1, 1, none⟩ (.slice none 0 0)).cell? ⟨w.heap.size + 1 + 1, 1, none⟩ = some (.slice none 0 0) := q4.cell 1
    have D := Lib.hid ((own_zeroH w3 w3.heap.size (Nat.le_refl _)).out q3.lt b2 (Nat.le_trans (Nat.le_succ _) (Nat.le_succ _)))
    clear q1 q2 q3 q4 b2
    go_wp2_with fail
    exact bodyPost_ret (v := .tuple #[.agg #[.slice none 0 0, .slice none 0 0], .bool false]) (by simp [results, Tryd.results37, go_sem, *]) rfl ⟨_, _, by rw [HF.out], by rw [HF.out]; exact D.out.1, D.out.2⟩
  by_cases hlim : 1 ≤ lim ∧ lim ≤ 40
  case neg =>
    have HF := Lib.hid (Hps.stepSw_no (h := h) (limit := lim) (o := o) (fun e => hlim ⟨e.2.2.1, e.2.2.2⟩))
    have hd : (decide ((1 : Int) ≤ lim) && decide (lim ≤ 40)) = false := by
      rw [Bool.and_eq_false_iff, decide_eq_false_iff_not, decide_eq_false_iff_not]
      omega
    have HL1 := Lib.hid (l1In_any lim 1 40 w3)
    clear hlim
    go_wp2_with fail
    refine HL1.out.mono ?_
    rw [hd]
    rintro e w4 ⟨rfl, rfl⟩
    have r2 : (w3).frozen? ⟨w.heap.size + 1 + 1, 0, none⟩ = false := q3.frozen 0
    have r3 : (w3).frozen? ⟨w.heap.size + 1 + 1, 1, none⟩ = false := q3.frozen 1
    have r5 : (w3).cell? ⟨w.heap.size + 1 + 1, 0, none⟩ = some (.slice none 0 0) := q3.cell 0
    have r6 : (w3).cell? ⟨w.heap.size + 1 + 1, 1, none⟩ = some (.slice none 0 0) := q3.cell 1
    have q4 := (q3.put 0 (.slice none 0 0)).put 1 (.slice none 0 0)
    have r8 : (((w3).setCell ⟨w.heap.size + 1 + 1, 0, none⟩ (.slice none 0 0)).setCell ⟨w.heap.size + 1 + 1, 1, none⟩ (.slice none 0 0)).cell? ⟨w.heap.size + 1 + 1, 0, none⟩ = some (.slice none 0 0) := q4.cell 0
    have r9 : (((w3).setCell ⟨w.heap.size + 1 + 1, 0, none⟩ (.slice none 0 0)).setCell ⟨w.heap.size + 1 + 1, 1, none⟩ (.slice none 0 0)).cell? ⟨w.heap.size + 1 + 1, 1, none⟩ = some (.slice none 0 0) := q4.cell 1
    have D := Lib.hid ((own_zeroH w3 w3.heap.size (Nat.le_refl _)).out q3.lt b2 (Nat.le_trans (Nat.le_succ _) (Nat.le_succ _)))
    clear q1 q2 q3 q4 b2
    go_wp2_with fail
    exact bodyPost_ret (v := .tuple #[.agg #[.slice none 0 0, .slice none 0 0], .bool false]) (by simp [results, Tryd.results37, go_sem, *]) rfl ⟨_, _, by rw [HF.out], by rw [HF.out]; exact D.out.1, D.out.2⟩
  have hd : (decide ((1 : Int) ≤ lim) && decide (lim ≤ 40)) = true := by rw [decide_eq_true hlim.1, decide_eq_true hlim.2]; rfl
  have HL1 := Lib.hid (l1In_any lim 1 40 w3)
  have HE := Lib.hid (show Hps.validH h = true ∧ Hps.okCm o = true ∧ 1 ≤ lim ∧ lim ≤ 40 from ⟨hv, ho, hlim.1, hlim.2⟩)
  have h40 := (Hps.valid_iff.1 hv).2.1
  have hr4 := (Hps.valid_iff.1 hv).2.2.1
  have hlc := hs.cells.1
  have hlr := hs.roots.1
  have hn4 : n ≤ 40 := by omega
  have hm4 : m ≤ 4 := by omega
  have H3 := Lib.hid (fun cl (hcl : cl ∈ h.cs) => show cl.r.length ≤ 1000000 by have := (Hps.okCell_iff.1 ((Hps.valid_iff.1 hv).1 cl hcl)).2.2.1; omega)
  have HD := Lib.hid hd
  clear hv ho hlim h40 hr4 hlr hlc hd
  have s2 := hs.up b2
  have x0 : w3.cell? ⟨w.heap.size, 0, none⟩ = some (.slice A n c) := q1.cell 0
  have x1 : w3.cell? ⟨w.heap.size, 1, none⟩ = some (.slice R m d) := q1.cell 1
  have z0 : w3.cell? ⟨w.heap.size + 1, 0, none⟩ = some (.int .i64 o.op) := q2.cell 0
  have z1 : w3.cell? ⟨w.heap.size + 1, 1, none⟩ = some (.int .i64 o.a) := q2.cell 1
  have z2 : w3.cell? ⟨w.heap.size + 1, 2, none⟩ = some (.int .i64 o.b) := q2.cell 2
  have z3 : w3.cell? ⟨w.heap.size + 1, 3, none⟩ = some (.int .i64 o.c) := q2.cell 3
  go_wp2_with fail
  refine HL1.out.mono ?_
  rw [HD.out]
  rintro e w4 ⟨rfl, rfl⟩
  go_wp2_with fail
  refine (mCommandPossible_any _ _ _ _ _ _ h o _ s2 hn hm).mono ?_
  rintro e w4 ⟨rfl, b1⟩
  replace q1 := q1.keep b1 q1.lt
  replace q2 := q2.keep b1 q2.lt
  replace q3 := q3.keep b1 q3.lt
  replace b2 := b2.trans (b1.mono b2.size)
  clear b1
  clear s2 x0 x1 z0 z1 z2 z3 HL1
  have s2 := hs.up b2
  have x0 : w4.cell? ⟨w.heap.size, 0, none⟩ = some (.slice A n c) := q1.cell 0
  have x1 : w4.cell? ⟨w.heap.size, 1, none⟩ = some (.slice R m d) := q1.cell 1
  have hsz : w.heap.size + 3 ≤ w4.heap.size := by have := q3.lt; omega
  cases hc : Hps.canH h o
  · have HF := Lib.hid (Hps.stepSw_cannot HE.out hc)
    clear hc
    go_wp2_with fail
    refine (l7Copy_any _ _ _ _ _ _ h _ s2 (by omega) (by omega) H3.out).mono ?_
    rintro e w5 ⟨vc, vr, rfl, oh, b1⟩
    obtain ⟨A5, n5, c5, R5, m5, d5, rfl, rfl⟩ := oh.slices
    replace oh := oh.base (base' := w.heap.size + 3) hsz
    replace q1 := q1.keep b1 q1.lt
    replace q2 := q2.keep b1 q2.lt
    replace q3 := q3.keep b1 q3.lt
    replace b2 := b2.trans (b1.mono b2.size)
    clear b1
    have r2 : (w5).frozen? ⟨w.heap.size + 1 + 1, 0, none⟩ = false := q3.frozen 0
    have r3 : (w5).frozen? ⟨w.heap.size + 1 + 1, 1, none⟩ = false := q3.frozen 1
    have r5 : (w5).cell? ⟨w.heap.size + 1 + 1, 0, none⟩ = some (.slice none 0 0) := q3.cell 0
    have r6 : (w5).cell? ⟨w.heap.size + 1 + 1, 1, none⟩ = some (.slice none 0 0) := q3.cell 1
    have q4 := (q3.put 0 (.slice A5 n5 c5)).put 1 (.slice R5 m5 d5)
    have r8 : (((w5).setCell ⟨w.heap.size + 1 + 1, 0, none⟩ (.slice A5 n5 c5)).setCell ⟨w.heap.size + 1 + 1, 1, none⟩ (.slice R5 m5 d5)).cell? ⟨w.heap.size + 1 + 1, 0, none⟩ = some (.slice A5 n5 c5) := q4.cell 0
    have r9 : (((w5).setCell ⟨w.heap.size + 1 + 1, 0, none⟩ (.slice A5 n5 c5)).setCell ⟨w.heap.size + 1 + 1, 1, none⟩ (.slice R5 m5 d5)).cell? ⟨w.heap.size + 1 + 1, 1, none⟩ = some (.slice R5 m5 d5) := q4.cell 1
    have D := Lib.hid (oh.out (g := w.heap.size + 1 + 1) (by omega) b2 (by omega))
    clear q1 q2 q3 q4 oh b2 x0 x1 s2
    go_wp2_with fail
    exact bodyPost_ret (v := .tuple #[.agg #[.slice A5 n5 c5, .slice R5 m5 d5], .bool false]) (by simp [results, Tryd.results37, go_sem, *]) rfl ⟨_, _, by rw [HF.out], by rw [HF.out]; exact D.out.1, D.out.2⟩
  have HC := Lib.hid hc
  clear hc
  go_wp2_with fail
  refine (l7Copy_any _ _ _ _ _ _ h _ s2 (by omega) (by omega) H3.out).mono ?_
  rintro e w5 ⟨vc, vr, rfl, oh, b1⟩
  obtain ⟨A5, n5, c5, R5, m5, d5, rfl, rfl, s5⟩ := oh.parts
  replace oh := oh.base (base' := w.heap.size + 3) hsz
  replace q1 := q1.keep b1 q1.lt
  replace q2 := q2.keep b1 q2.lt
  replace q3 := q3.keep b1 q3.lt
  replace b2 := b2.trans (b1.mono b2.size)
  clear b1
  clear s2 x0 x1 hsz
  have bA : Below w5.heap.size w5 (w5.alloc (.cells #[.slice A5 n5 c5, .slice R5 m5 d5] 26)) := (Below.refl _ _).alloc (Nat.le_refl _) _
  have bx := Rw.new w5 26 #[.slice A5 n5 c5, .slice R5 m5 d5]
  replace q2 := q2.alloc (.cells #[.slice A5 n5 c5, .slice R5 m5 d5] 26)
  have hq5 := q3.lt
  replace q3 := q3.alloc (.cells #[.slice A5 n5 c5, .slice R5 m5 d5] 26)
  replace b2 := b2.trans (bA.mono b2.size)
  replace oh := oh.below bA (Nat.le_refl _)
  replace s5 := s5.up bA
  clear bA q1
  go_upto_region 6 with fail
  generalize w5.alloc (.cells #[.slice A5 n5 c5, .slice R5 m5 d5] 26) = w6 at bx q2 q3 b2 oh s5 ⊢
  obtain ⟨b, hb⟩ : ∃ b, w5.heap.size = b := ⟨_, rfl⟩
  rw [hb] at bx hq5 ⊢
  clear hb
  have hn5 : n5 ≤ 40 := by rw [← s5.cells.1]; exact (Hps.valid_iff.1 HE.out.1).2.1
  have hm5 : m5 ≤ 4 := by rw [← s5.roots.1, (Hps.valid_iff.1 HE.out.1).2.2.1]; exact Nat.le_refl _
  by_cases h1 : o.op = 1
  case neg =>
    have ht : (o.op == (1 : Int)) = false := by rw [beq_eq_false_iff_ne]; exact h1
    have hroom := Hps.room_other (h := h) (limit := lim) h1
    have HF := Lib.hid (Hps.stepSw_does HE.out HC.out (fun e => h1 e.1))
    rw [hroom] at HF
    have HCX := HC
    clear h1 hroom oh
    have z0 : w6.cell? ⟨w.heap.size + 1, 0, none⟩ = some (.int .i64 o.op) := q2.cell 0
    have z1 : w6.cell? ⟨w.heap.size + 1, 1, none⟩ = some (.int .i64 o.a) := q2.cell 1
    have z2 : w6.cell? ⟨w.heap.size + 1, 2, none⟩ = some (.int .i64 o.b) := q2.cell 2
    have z3 : w6.cell? ⟨w.heap.size + 1, 3, none⟩ = some (.int .i64 o.c) := q2.cell 3
    have y0 : w6.cell? ⟨b, 0, none⟩ = some (.slice A5 n5 c5) := bx.cell 0
    have y1 : w6.cell? ⟨b, 1, none⟩ = some (.slice R5 m5 d5) := bx.cell 1
    have hg5 : Hps.gapH (h) ≤ n5 := by have := Hps.gapH_le (h); rw [s5.cells.1] at this; exact this
    have HG5 := Lib.hid hg5
    have hbl := bx.lt
    have hql := q2.lt
    have hGl := q3.lt
    clear hg5
    go_upto_region 10 with fail
    clear z0 z1 z2 z3 y0 y1
    refine wp_region_inv (by kernel_rfl) (by kernel_rfl) (fun L ac ww => ∃ t7 t50 t51 t52 t53 t54 : Value, ac = { tmps := #[heapV A n c R m d, Value.int IntKind.i64 lim, cmV o, Value.pointer (some { block := w.heap.size, off := 0 }), undef, Value.pointer (some { block := w.heap.size + 1, off := 0 }), Value.pointer (some { block := w.heap.size + 1 + 1, off := 0 }), t7, Value.pointer (some { block := b, off := 0 }), Value.agg #[Value.slice A n c, Value.slice R m d], Value.bool true, Value.bool false, Value.bool false, Value.agg #[Value.int IntKind.i64 o.op, Value.int IntKind.i64 o.a, Value.int IntKind.i64 o.b, Value.int IntKind.i64 o.c], Value.bool true, Value.bool false, Value.bool false, Value.bool false, Value.int IntKind.i64 lim, Value.bool true, Value.bool false, Value.bool false, undef, Value.agg #[Value.slice A n c, Value.slice R m d], Value.agg #[Value.int IntKind.i64 o.op, Value.int IntKind.i64 o.a, Value.int IntKind.i64 o.b, Value.int IntKind.i64 o.c], Value.bool true, Value.bool false, undef, undef, Value.agg #[Value.slice A n c, Value.slice R m d], Value.agg #[Value.slice A5 n5 c5, Value.slice R5 m5 d5], Value.pointer (some { block := w.heap.size + 1, off := 0 }), Value.int IntKind.i64 o.op, Value.bool false, Value.bool false, undef, undef, undef, undef, Value.bool false, undef, undef, undef, undef, undef, undef, undef, undef, undef, undef, t50, t51, t52, t53, t54], defers := [] } ∧ (L 5 = false → Below w6.heap.size w6 ww) ∧ (Below w.heap.size w ww) ∧ (L 5 = false → Rw ww (w.heap.size + 1 + 1) 26 #[.slice none 0 0, .slice none 0 0]) ∧ (L 5 = true → ∀ q, q < 5 → L q = true) ∧ (L 0 = true → t50 = heapV A5 n5 c5 R5 m5 d5) ∧ (L 1 = true → t51 = cmV o) ∧ (L 2 = true → t52 = heapV A5 n5 c5 R5 m5 d5) ∧ (L 3 = true → t53 = .int .i64 (Hps.gapH (h) : Nat)) ∧ (L 4 = true → ∃ (A7 : Option Addr) (n7 c7 : Nat) (R7 : Option Addr) (m7 d7 : Nat), t54 = heapV A7 n7 c7 R7 m7 d7 ∧ OwnH ww w6.heap.size (.slice A7 n7 c7) (.slice R7 m7 d7) (Hps.doH (h) o (Hps.gapH (h)))) ∧ (L 5 = true → ∃ (A7 : Option Addr) (n7 c7 : Nat) (R7 : Option Addr) (m7 d7 : Nat), Rw ww (w.heap.size + 1 + 1) 26 #[.slice A7 n7 c7, .slice R7 m7 d7] ∧ OwnH ww w6.heap.size (.slice A7 n7 c7) (.slice R7 m7 d7) (Hps.doH (h) o (Hps.gapH (h)))) ∧ (L 6 = true → t7 = .bool true)) ?h0 ?hstep ?hdone
    case h0 => exact ⟨_, _, _, _, _, _, rfl, fun _ => (Below.refl _ _).drew, b2.drew, fun _ => q3.keep (Below.refl _ _).drew q3.lt, fun h => absurd h Bool.false_ne_true, (fun h => absurd h Bool.false_ne_true), (fun h => absurd h Bool.false_ne_true), (fun h => absurd h Bool.false_ne_true), (fun h => absurd h Bool.false_ne_true), (fun h => absurd h Bool.false_ne_true), (fun h => absurd h Bool.false_ne_true), (fun h => absurd h Bool.false_ne_true)⟩
    case hstep =>
      rintro L ac ww i o ho hL hd ⟨t7, t50, t51, t52, t53, t54, rfl, I0, I1, I2, I3, f0, f1, f2, f3, f4, f5, f6⟩
      have hi : i < 7 := (Array.getElem?_eq_some_iff.1 ho).1
      obtain rfl | rfl | rfl | rfl | rfl | rfl | rfl : i = 0 ∨ i = 1 ∨ i = 2 ∨ i = 3 ∨ i = 4 ∨ i = 5 ∨ i = 6 := by omega
      · obtain rfl := Option.some.inj ho
        have h5 : L 5 = false := by
          cases e : L 5
          · rfl
          · exact absurd (I3 e 0 (by omega)) (by rw [hL]; decide)
        have J0 := I0 h5
        have v0 : ww.cell? ⟨b, 0, none⟩ = some (.slice A5 n5 c5) := (bx.keep J0 hbl).cell 0
        have v1 : ww.cell? ⟨b, 1, none⟩ = some (.slice R5 m5 d5) := (bx.keep J0 hbl).cell 1
        refine wpOp_step rfl (fun K' hK => ?_)
        go_simp
        refine hK _ _ ?_
        exact ⟨_, _, _, _, _, _, rfl, (fun h => I0 ((upd_other (by decide)).symm.trans h)), (I1), (fun h => I2 ((upd_other (by decide)).symm.trans h)), (fun h q hq => upd_mono (I3 (upd_ne h (by decide)) q hq)), (fun _ => rfl), (kp f1), (kp f2), (kp f3), (kp f4), (kp f5), (kp f6)⟩
      · obtain rfl := Option.some.inj ho
        have h5 : L 5 = false := by
          cases e : L 5
          · rfl
          · exact absurd (I3 e 1 (by omega)) (by rw [hL]; decide)
        have J0 := I0 h5
        have v0 : ww.cell? ⟨w.heap.size + 1, 0, none⟩ = some (.int .i64 o.op) := (q2.keep J0 hql).cell 0
        have v1 : ww.cell? ⟨w.heap.size + 1, 1, none⟩ = some (.int .i64 o.a) := (q2.keep J0 hql).cell 1
        have v2 : ww.cell? ⟨w.heap.size + 1, 2, none⟩ = some (.int .i64 o.b) := (q2.keep J0 hql).cell 2
        have v3 : ww.cell? ⟨w.heap.size + 1, 3, none⟩ = some (.int .i64 o.c) := (q2.keep J0 hql).cell 3
        refine wpOp_step rfl (fun K' hK => ?_)
        go_simp
        refine hK _ _ ?_
        exact ⟨_, _, _, _, _, _, rfl, (fun h => I0 ((upd_other (by decide)).symm.trans h)), (I1), (fun h => I2 ((upd_other (by decide)).symm.trans h)), (fun h q hq => upd_mono (I3 (upd_ne h (by decide)) q hq)), (kp f0), (fun _ => rfl), (kp f2), (kp f3), (kp f4), (kp f5), (kp f6)⟩
      · obtain rfl := Option.some.inj ho
        have h5 : L 5 = false := by
          cases e : L 5
          · rfl
          · exact absurd (I3 e 2 (by omega)) (by rw [hL]; decide)
        have J0 := I0 h5
        have v0 : ww.cell? ⟨b, 0, none⟩ = some (.slice A5 n5 c5) := (bx.keep J0 hbl).cell 0
        have v1 : ww.cell? ⟨b, 1, none⟩ = some (.slice R5 m5 d5) := (bx.keep J0 hbl).cell 1
        refine wpOp_step rfl (fun K' hK => ?_)
        go_simp
        refine hK _ _ ?_
        exact ⟨_, _, _, _, _, _, rfl, (fun h => I0 ((upd_other (by decide)).symm.trans h)), (I1), (fun h => I2 ((upd_other (by decide)).symm.trans h)), (fun h q hq => upd_mono (I3 (upd_ne h (by decide)) q hq)), (kp f0), (kp f1), (fun _ => rfl), (kp f3), (kp f4), (kp f5), (kp f6)⟩
      · obtain rfl := Option.some.inj ho
        have g2 := f2 (hd ⟨2, .data⟩ (by simp) rfl)
        subst g2
        have h5 : L 5 = false := by
          cases e : L 5
          · rfl
          · exact absurd (I3 e 3 (by omega)) (by rw [hL]; decide)
        have J0 := I0 h5
        refine wpOp_step rfl (fun K' hK => ?_)
        go_simp
        refine (mPlace_any _ _ _ _ _ _ (h) ww (s5.up J0) (by omega)).mono ?_
        rintro e w' ⟨rfl, b5⟩
        refine hK _ _ ?_
        exact ⟨_, _, _, _, _, _, rfl, (fun _ => J0.trans (b5.mono J0.size)), (I1.trans (b5.mono I1.size)), (fun h => (I2 h5).keep b5 (I2 h5).lt), (fun h q hq => upd_mono (I3 (upd_ne h (by decide)) q hq)), (kp f0), (kp f1), (kp f2), (fun _ => rfl), (fun h => by
          obtain ⟨A7, n7, c7, R7, m7, d7, e7, o7⟩ := f4 (upd_ne h (by decide))
          exact ⟨A7, n7, c7, R7, m7, d7, e7, o7.below b5 (Nat.le_refl _)⟩), (fun h => absurd ((upd_other (by decide)).symm.trans h) (by rw [h5]; decide)), (kp f6)⟩
      · obtain rfl := Option.some.inj ho
        have g0 := f0 (hd ⟨0, .data⟩ (by simp) rfl)
        have g1 := f1 (hd ⟨1, .data⟩ (by simp) rfl)
        have g3 := f3 (hd ⟨3, .data⟩ (by simp) rfl)
        subst g0
        subst g1
        subst g3
        have h5 : L 5 = false := by
          cases e : L 5
          · rfl
          · exact absurd (I3 e 4 (by omega)) (by rw [hL]; decide)
        have J0 := I0 h5
        refine wpOp_step rfl (fun K' hK => ?_)
        go_simp
        refine (l8Do_any A5 R5 n5 c5 m5 d5 (h) o (Hps.gapH (h)) ww (s5.up J0) HCX.out (fun _ => HG5.out)).mono ?_
        rintro e w' ⟨vc7, vr7, rfl, o7, b5⟩
        obtain ⟨A7, n7, c7, R7, m7, d7, rfl, rfl⟩ := o7.slices
        refine hK _ _ ?_
        exact ⟨_, _, _, _, _, _, rfl, (fun _ => J0.trans (b5.mono J0.size)), (I1.trans (b5.mono I1.size)), (fun h => (I2 h5).keep b5 (I2 h5).lt), (fun h q hq => upd_mono (I3 (upd_ne h (by decide)) q hq)), (kp f0), (kp f1), (kp f2), (kp f3), (fun _ => ⟨A7, n7, c7, R7, m7, d7, rfl, o7.base J0.size⟩), (fun h => absurd ((upd_other (by decide)).symm.trans h) (by rw [h5]; decide)), (kp f6)⟩
      · obtain rfl := Option.some.inj ho
        have g4 := f4 (hd ⟨4, .data⟩ (by simp) rfl)
        obtain ⟨A7, n7, c7, R7, m7, d7, rfl, o7⟩ := g4
        have rz := I2 hL
        have u0 := rz.cell 0
        have u1 := rz.cell 1
        have v0 := rz.frozen 0
        have v1 := rz.frozen 1
        simp at u0 u1
        refine wpOp_step rfl (fun K' hK => ?_)
        go_simp
        refine hK _ _ ?_
        exact ⟨_, _, _, _, _, _, rfl, (fun h => absurd (upd_self.symm.trans h) (by decide)), ((I1.setCell (p := ⟨w.heap.size + 1 + 1, 0, none⟩) (by show w.heap.size ≤ w.heap.size + 1 + 1; omega) _).setCell (p := ⟨w.heap.size + 1 + 1, 1, none⟩) (by show w.heap.size ≤ w.heap.size + 1 + 1; omega) _), (fun h => absurd (upd_self.symm.trans h) (by decide)), (fun _ q hq => upd_mono (by
          obtain rfl | rfl | rfl | rfl | rfl : q = 0 ∨ q = 1 ∨ q = 2 ∨ q = 3 ∨ q = 4 := by omega
          all_goals exact hd ⟨_, .phase⟩ (by simp) rfl)), (kp f0), (kp f1), (kp f2), (kp f3), (fun _ => ⟨A7, n7, c7, R7, m7, d7, rfl, o7.put (by omega) _ _⟩), (fun _ => ⟨A7, n7, c7, R7, m7, d7, (rz.put 0 _).put 1 _, o7.put (by omega) _ _⟩), (kp f6)⟩
      · obtain rfl := Option.some.inj ho
        refine wpOp_step rfl (fun K' hK => ?_)
        go_simp
        refine hK _ _ ?_
        exact ⟨_, _, _, _, _, _, rfl, (fun h => I0 ((upd_other (by decide)).symm.trans h)), (I1), (fun h => I2 ((upd_other (by decide)).symm.trans h)), (fun h q hq => upd_mono (I3 (upd_ne h (by decide)) q hq)), (kp f0), (kp f1), (kp f2), (kp f3), (kp f4), (kp f5), (fun _ => rfl)⟩
    case hdone =>
      rintro L ac ww hall ⟨t7, t50, t51, t52, t53, t54, rfl, I0, I1, I2, I3, f0, f1, f2, f3, f4, f5, f6⟩
      have e0 := f0 (hall 0 (by decide))
      have e1 := f1 (hall 1 (by decide))
      have e2 := f2 (hall 2 (by decide))
      have e3 := f3 (hall 3 (by decide))
      have e4 := f4 (hall 4 (by decide))
      have e5 := f5 (hall 5 (by decide))
      have e6 := f6 (hall 6 (by decide))
      clear f0 f1 f2 f3 f4 f5 f6
      obtain ⟨A7, n7, c7, R7, m7, d7, r7, o7⟩ := e5
      subst e6
      have q0 := r7.cell 0
      have q5 := r7.cell 1
      simp at q0 q5
      have D := Lib.hid (And.intro (o7.base (base' := w.heap.size) (by have := b2.size; omega)) I1)
      clear e0 e1 e2 e3 e4 I0 I1 I2 I3 hall o7 r7
      go_wp2_with fail
      exact bodyPost_ret (v := .tuple #[.agg #[.slice A7 n7 c7, .slice R7 m7 d7], .bool true]) (by simp [results, Tryd.results37, go_sem, *]) rfl ⟨_, _, by rw [HF.out], by rw [HF.out]; exact D.out.1, D.out.2⟩
  have ht : (o.op == (1 : Int)) = true := by rw [h1]; rfl
  obtain ⟨gp, hgp⟩ : ∃ gp, Hps.gapH h = gp := ⟨_, rfl⟩
  have HGP := Lib.hid hgp
  have HP1 := Lib.hid (mPlace_any A5 R5 n5 c5 m5 d5 h w6 s5 (by omega))
  rw [hgp] at HP1
  have HO1 := Lib.hid h1
  clear hgp h1
  have z0 : w6.cell? ⟨w.heap.size + 1, 0, none⟩ = some (.int .i64 o.op) := q2.cell 0
  have z1 : w6.cell? ⟨w.heap.size + 1, 1, none⟩ = some (.int .i64 o.a) := q2.cell 1
  have z2 : w6.cell? ⟨w.heap.size + 1, 2, none⟩ = some (.int .i64 o.b) := q2.cell 2
  have z3 : w6.cell? ⟨w.heap.size + 1, 3, none⟩ = some (.int .i64 o.c) := q2.cell 3
  have y0 : w6.cell? ⟨b, 0, none⟩ = some (.slice A5 n5 c5) := bx.cell 0
  have y1 : w6.cell? ⟨b, 1, none⟩ = some (.slice R5 m5 d5) := bx.cell 1
  go_wp2_with fail
  refine HP1.out.mono ?_
  rintro e w7 ⟨rfl, b1⟩
  replace bx := bx.keep b1 bx.lt
  replace q2 := q2.keep b1 q2.lt
  replace q3 := q3.keep b1 q3.lt
  replace b2 := b2.trans (b1.mono b2.size)
  replace s5 := s5.up b1
  clear b1 z0 z1 z2 z3 y0 y1 HP1
  by_cases hgl : lim ≤ (gp : Int)
  case neg =>
    have hge : ¬ (gp : Int) ≥ lim := by omega
    have hroom := Hps.room_free (h := h) (limit := lim) (o := o) (by rw [HGP.out]; exact hgl)
    have HF := Lib.hid (Hps.stepSw_does HE.out HC.out (fun e => by rw [hroom, HGP.out] at e; exact hgl e.2))
    rw [hroom] at HF
    have HCX := HC
    clear hgl hroom oh
    have z0 : w7.cell? ⟨w.heap.size + 1, 0, none⟩ = some (.int .i64 o.op) := q2.cell 0
    have z1 : w7.cell? ⟨w.heap.size + 1, 1, none⟩ = some (.int .i64 o.a) := q2.cell 1
    have z2 : w7.cell? ⟨w.heap.size + 1, 2, none⟩ = some (.int .i64 o.b) := q2.cell 2
    have z3 : w7.cell? ⟨w.heap.size + 1, 3, none⟩ = some (.int .i64 o.c) := q2.cell 3
    have y0 : w7.cell? ⟨b, 0, none⟩ = some (.slice A5 n5 c5) := bx.cell 0
    have y1 : w7.cell? ⟨b, 1, none⟩ = some (.slice R5 m5 d5) := bx.cell 1
    have hg5 : Hps.gapH (h) ≤ n5 := by have := Hps.gapH_le (h); rw [s5.cells.1] at this; exact this
    have HG5 := Lib.hid hg5
    have hbl := bx.lt
    have hql := q2.lt
    have hGl := q3.lt
    clear hg5
    go_upto_region 10 with fail
    clear z0 z1 z2 z3 y0 y1
    refine wp_region_inv (by kernel_rfl) (by kernel_rfl) (fun L ac ww => ∃ t7 t50 t51 t52 t53 t54 : Value, ac = { tmps := #[heapV A n c R m d, Value.int IntKind.i64 lim, cmV o, Value.pointer (some { block := w.heap.size, off := 0 }), undef, Value.pointer (some { block := w.heap.size + 1, off := 0 }), Value.pointer (some { block := w.heap.size + 1 + 1, off := 0 }), t7, Value.pointer (some { block := b, off := 0 }), Value.agg #[Value.slice A n c, Value.slice R m d], Value.bool true, Value.bool false, Value.bool false, Value.agg #[Value.int IntKind.i64 o.op, Value.int IntKind.i64 o.a, Value.int IntKind.i64 o.b, Value.int IntKind.i64 o.c], Value.bool true, Value.bool false, Value.bool false, Value.bool false, Value.int IntKind.i64 lim, Value.bool true, Value.bool false, Value.bool false, undef, Value.agg #[Value.slice A n c, Value.slice R m d], Value.agg #[Value.int IntKind.i64 o.op, Value.int IntKind.i64 o.a, Value.int IntKind.i64 o.b, Value.int IntKind.i64 o.c], Value.bool true, Value.bool false, undef, undef, Value.agg #[Value.slice A n c, Value.slice R m d], Value.agg #[Value.slice A5 n5 c5, Value.slice R5 m5 d5], Value.pointer (some { block := w.heap.size + 1, off := 0 }), Value.int IntKind.i64 o.op, Value.bool true, Value.bool true, Value.agg #[Value.slice A5 n5 c5, Value.slice R5 m5 d5], Value.int IntKind.i64 ↑gp, Value.int IntKind.i64 lim, Value.bool (decide (lim ≤ ↑gp)), Value.bool (decide (lim ≤ ↑gp)), undef, undef, undef, undef, undef, undef, undef, undef, undef, undef, t50, t51, t52, t53, t54], defers := [] } ∧ (L 5 = false → Below w7.heap.size w7 ww) ∧ (Below w.heap.size w ww) ∧ (L 5 = false → Rw ww (w.heap.size + 1 + 1) 26 #[.slice none 0 0, .slice none 0 0]) ∧ (L 5 = true → ∀ q, q < 5 → L q = true) ∧ (L 0 = true → t50 = heapV A5 n5 c5 R5 m5 d5) ∧ (L 1 = true → t51 = cmV o) ∧ (L 2 = true → t52 = heapV A5 n5 c5 R5 m5 d5) ∧ (L 3 = true → t53 = .int .i64 (Hps.gapH (h) : Nat)) ∧ (L 4 = true → ∃ (A7 : Option Addr) (n7 c7 : Nat) (R7 : Option Addr) (m7 d7 : Nat), t54 = heapV A7 n7 c7 R7 m7 d7 ∧ OwnH ww w7.heap.size (.slice A7 n7 c7) (.slice R7 m7 d7) (Hps.doH (h) o (Hps.gapH (h)))) ∧ (L 5 = true → ∃ (A7 : Option Addr) (n7 c7 : Nat) (R7 : Option Addr) (m7 d7 : Nat), Rw ww (w.heap.size + 1 + 1) 26 #[.slice A7 n7 c7, .slice R7 m7 d7] ∧ OwnH ww w7.heap.size (.slice A7 n7 c7) (.slice R7 m7 d7) (Hps.doH (h) o (Hps.gapH (h)))) ∧ (L 6 = true → t7 = .bool true)) ?h0 ?hstep ?hdone
    case h0 => exact ⟨_, _, _, _, _, _, rfl, fun _ => (Below.refl _ _).drew, b2.drew, fun _ => q3.keep (Below.refl _ _).drew q3.lt, fun h => absurd h Bool.false_ne_true, (fun h => absurd h Bool.false_ne_true), (fun h => absurd h Bool.false_ne_true), (fun h => absurd h Bool.false_ne_true), (fun h => absurd h Bool.false_ne_true), (fun h => absurd h Bool.false_ne_true), (fun h => absurd h Bool.false_ne_true), (fun h => absurd h Bool.false_ne_true)⟩
    case hstep =>
      rintro L ac ww i o ho hL hd ⟨t7, t50, t51, t52, t53, t54, rfl, I0, I1, I2, I3, f0, f1, f2, f3, f4, f5, f6⟩
      have hi : i < 7 := (Array.getElem?_eq_some_iff.1 ho).1
      obtain rfl | rfl | rfl | rfl | rfl | rfl | rfl : i = 0 ∨ i = 1 ∨ i = 2 ∨ i = 3 ∨ i = 4 ∨ i = 5 ∨ i = 6 := by omega
      · obtain rfl := Option.some.inj ho
        have h5 : L 5 = false := by
          cases e : L 5
          · rfl
          · exact absurd (I3 e 0 (by omega)) (by rw [hL]; decide)
        have J0 := I0 h5
        have v0 : ww.cell? ⟨b, 0, none⟩ = some (.slice A5 n5 c5) := (bx.keep J0 hbl).cell 0
        have v1 : ww.cell? ⟨b, 1, none⟩ = some (.slice R5 m5 d5) := (bx.keep J0 hbl).cell 1
        refine wpOp_step rfl (fun K' hK => ?_)
        go_simp
        refine hK _ _ ?_
        exact ⟨_, _, _, _, _, _, rfl, (fun h => I0 ((upd_other (by decide)).symm.trans h)), (I1), (fun h => I2 ((upd_other (by decide)).symm.trans h)), (fun h q hq => upd_mono (I3 (upd_ne h (by decide)) q hq)), (fun _ => rfl), (kp f1), (kp f2), (kp f3), (kp f4), (kp f5), (kp f6)⟩
      · obtain rfl := Option.some.inj ho
        have h5 : L 5 = false := by
          cases e : L 5
          · rfl
          · exact absurd (I3 e 1 (by omega)) (by rw [hL]; decide)
        have J0 := I0 h5
        have v0 : ww.cell? ⟨w.heap.size + 1, 0, none⟩ = some (.int .i64 o.op) := (q2.keep J0 hql).cell 0
        have v1 : ww.cell? ⟨w.heap.size + 1, 1, none⟩ = some (.int .i64 o.a) := (q2.keep J0 hql).cell 1
        have v2 : ww.cell? ⟨w.heap.size + 1, 2, none⟩ = some (.int .i64 o.b) := (q2.keep J0 hql).cell 2
        have v3 : ww.cell? ⟨w.heap.size + 1, 3, none⟩ = some (.int .i64 o.c) := (q2.keep J0 hql).cell 3
        refine wpOp_step rfl (fun K' hK => ?_)
        go_simp
        refine hK _ _ ?_
        exact ⟨_, _, _, _, _, _, rfl, (fun h => I0 ((upd_other (by decide)).symm.trans h)), (I1), (fun h => I2 ((upd_other (by decide)).symm.trans h)), (fun h q hq => upd_mono (I3 (upd_ne h (by decide)) q hq)), (kp f0), (fun _ => rfl), (kp f2), (kp f3), (kp f4), (kp f5), (kp f6)⟩
      · obtain rfl := Option.some.inj ho
        have h5 : L 5 = false := by
          cases e : L 5
          · rfl
          · exact absurd (I3 e 2 (by omega)) (by rw [hL]; decide)
        have J0 := I0 h5
        have v0 : ww.cell? ⟨b, 0, none⟩ = some (.slice A5 n5 c5) := (bx.keep J0 hbl).cell 0
        have v1 : ww.cell? ⟨b, 1, none⟩ = some (.slice R5 m5 d5) := (bx.keep J0 hbl).cell 1
        refine wpOp_step rfl (fun K' hK => ?_)
        go_simp
        refine hK _ _ ?_
        exact ⟨_, _, _, _, _, _, rfl, (fun h => I0 ((upd_other (by decide)).symm.trans h)), (I1), (fun h => I2 ((upd_other (by decide)).symm.trans h)), (fun h q hq => upd_mono (I3 (upd_ne h (by decide)) q hq)), (kp f0), (kp f1), (fun _ => rfl), (kp f3), (kp f4), (kp f5), (kp f6)⟩
      · obtain rfl := Option.some.inj ho
        have g2 := f2 (hd ⟨2, .data⟩ (by simp) rfl)
        subst g2
        have h5 : L 5 = false := by
          cases e : L 5
          · rfl
          · exact absurd (I3 e 3 (by omega)) (by rw [hL]; decide)
        have J0 := I0 h5
        refine wpOp_step rfl (fun K' hK => ?_)
        go_simp
        refine (mPlace_any _ _ _ _ _ _ (h) ww (s5.up J0) (by omega)).mono ?_
        rintro e w' ⟨rfl, b5⟩
        refine hK _ _ ?_
        exact ⟨_, _, _, _, _, _, rfl, (fun _ => J0.trans (b5.mono J0.size)), (I1.trans (b5.mono I1.size)), (fun h => (I2 h5).keep b5 (I2 h5).lt), (fun h q hq => upd_mono (I3 (upd_ne h (by decide)) q hq)), (kp f0), (kp f1), (kp f2), (fun _ => rfl), (fun h => by
          obtain ⟨A7, n7, c7, R7, m7, d7, e7, o7⟩ := f4 (upd_ne h (by decide))
          exact ⟨A7, n7, c7, R7, m7, d7, e7, o7.below b5 (Nat.le_refl _)⟩), (fun h => absurd ((upd_other (by decide)).symm.trans h) (by rw [h5]; decide)), (kp f6)⟩
      · obtain rfl := Option.some.inj ho
        have g0 := f0 (hd ⟨0, .data⟩ (by simp) rfl)
        have g1 := f1 (hd ⟨1, .data⟩ (by simp) rfl)
        have g3 := f3 (hd ⟨3, .data⟩ (by simp) rfl)
        subst g0
        subst g1
        subst g3
        have h5 : L 5 = false := by
          cases e : L 5
          · rfl
          · exact absurd (I3 e 4 (by omega)) (by rw [hL]; decide)
        have J0 := I0 h5
        refine wpOp_step rfl (fun K' hK => ?_)
        go_simp
        refine (l8Do_any A5 R5 n5 c5 m5 d5 (h) o (Hps.gapH (h)) ww (s5.up J0) HCX.out (fun _ => HG5.out)).mono ?_
        rintro e w' ⟨vc7, vr7, rfl, o7, b5⟩
        obtain ⟨A7, n7, c7, R7, m7, d7, rfl, rfl⟩ := o7.slices
        refine hK _ _ ?_
        exact ⟨_, _, _, _, _, _, rfl, (fun _ => J0.trans (b5.mono J0.size)), (I1.trans (b5.mono I1.size)), (fun h => (I2 h5).keep b5 (I2 h5).lt), (fun h q hq => upd_mono (I3 (upd_ne h (by decide)) q hq)), (kp f0), (kp f1), (kp f2), (kp f3), (fun _ => ⟨A7, n7, c7, R7, m7, d7, rfl, o7.base J0.size⟩), (fun h => absurd ((upd_other (by decide)).symm.trans h) (by rw [h5]; decide)), (kp f6)⟩
      · obtain rfl := Option.some.inj ho
        have g4 := f4 (hd ⟨4, .data⟩ (by simp) rfl)
        obtain ⟨A7, n7, c7, R7, m7, d7, rfl, o7⟩ := g4
        have rz := I2 hL
        have u0 := rz.cell 0
        have u1 := rz.cell 1
        have v0 := rz.frozen 0
        have v1 := rz.frozen 1
        simp at u0 u1
        refine wpOp_step rfl (fun K' hK => ?_)
        go_simp
        refine hK _ _ ?_
        exact ⟨_, _, _, _, _, _, rfl, (fun h => absurd (upd_self.symm.trans h) (by decide)), ((I1.setCell (p := ⟨w.heap.size + 1 + 1, 0, none⟩) (by show w.heap.size ≤ w.heap.size + 1 + 1; omega) _).setCell (p := ⟨w.heap.size + 1 + 1, 1, none⟩) (by show w.heap.size ≤ w.heap.size + 1 + 1; omega) _), (fun h => absurd (upd_self.symm.trans h) (by decide)), (fun _ q hq => upd_mono (by
          obtain rfl | rfl | rfl | rfl | rfl : q = 0 ∨ q = 1 ∨ q = 2 ∨ q = 3 ∨ q = 4 := by omega
          all_goals exact hd ⟨_, .phase⟩ (by simp) rfl)), (kp f0), (kp f1), (kp f2), (kp f3), (fun _ => ⟨A7, n7, c7, R7, m7, d7, rfl, o7.put (by omega) _ _⟩), (fun _ => ⟨A7, n7, c7, R7, m7, d7, (rz.put 0 _).put 1 _, o7.put (by omega) _ _⟩), (kp f6)⟩
      · obtain rfl := Option.some.inj ho
        refine wpOp_step rfl (fun K' hK => ?_)
        go_simp
        refine hK _ _ ?_
        exact ⟨_, _, _, _, _, _, rfl, (fun h => I0 ((upd_other (by decide)).symm.trans h)), (I1), (fun h => I2 ((upd_other (by decide)).symm.trans h)), (fun h q hq => upd_mono (I3 (upd_ne h (by decide)) q hq)), (kp f0), (kp f1), (kp f2), (kp f3), (kp f4), (kp f5), (fun _ => rfl)⟩
    case hdone =>
      rintro L ac ww hall ⟨t7, t50, t51, t52, t53, t54, rfl, I0, I1, I2, I3, f0, f1, f2, f3, f4, f5, f6⟩
      have e0 := f0 (hall 0 (by decide))
      have e1 := f1 (hall 1 (by decide))
      have e2 := f2 (hall 2 (by decide))
      have e3 := f3 (hall 3 (by decide))
      have e4 := f4 (hall 4 (by decide))
      have e5 := f5 (hall 5 (by decide))
      have e6 := f6 (hall 6 (by decide))
      clear f0 f1 f2 f3 f4 f5 f6
      obtain ⟨A7, n7, c7, R7, m7, d7, r7, o7⟩ := e5
      subst e6
      have q0 := r7.cell 0
      have q5 := r7.cell 1
      simp at q0 q5
      have D := Lib.hid (And.intro (o7.base (base' := w.heap.size) (by have := b2.size; omega)) I1)
      clear e0 e1 e2 e3 e4 I0 I1 I2 I3 hall o7 r7
      go_wp2_with fail
      exact bodyPost_ret (v := .tuple #[.agg #[.slice A7 n7 c7, .slice R7 m7 d7], .bool true]) (by simp [results, Tryd.results37, go_sem, *]) rfl ⟨_, _, by rw [HF.out], by rw [HF.out]; exact D.out.1, D.out.2⟩
  have hge : (gp : Int) ≥ lim := by omega
  have hroom := Hps.room_full (h := h) (limit := lim) HO1.out (by rw [HGP.out]; exact hgl)
  have HRM := Lib.hid hroom
  have hx40 : (Hps.sweptH h).cs.length ≤ 40 := by rw [Hps.swept_len]; exact (Hps.valid_iff.1 HE.out.1).2.1
  have hx4 : (Hps.sweptH h).rt.length = 4 := (Hps.valid_iff.1 HE.out.1).2.2.1
  have hcx := Hps.room_can HE.out.1 lim HC.out
  rw [hroom] at hcx
  have HCX := Lib.hid hcx
  have HCS := Lib.hid (mCollectSweep_any A5 R5 n5 c5 m5 d5 h w7 s5 (by omega) (by omega))
  rw [Hps.collect_eq HE.out.1] at HCS
  obtain ⟨X, hX⟩ : ∃ X, Hps.sweptH h = X := ⟨_, rfl⟩
  rw [hX] at HCS HCX HRM hx40 hx4
  have HX4 := Lib.hid hx4
  have HX40 := Lib.hid hx40
  clear hgl hroom hcx hX oh hx4 hx40
  have y0 : w7.cell? ⟨b, 0, none⟩ = some (.slice A5 n5 c5) := bx.cell 0
  have y1 : w7.cell? ⟨b, 1, none⟩ = some (.slice R5 m5 d5) := bx.cell 1
  have f0 : w7.frozen? ⟨b, 0, none⟩ = false := bx.frozen 0
  go_wp2_with fail
  refine HCS.out.mono ?_
  rintro e w8 ⟨vc8, vr8, rfl, o8, b1⟩
  obtain ⟨A8, n8, c8, R8, m8, d8, rfl, rfl, s8⟩ := o8.parts
  have hbl7 := bx.lt
  replace bx := bx.keep b1 bx.lt
  replace q2 := q2.keep b1 q2.lt
  replace q3 := q3.keep b1 q3.lt
  replace b2 := b2.trans (b1.mono b2.size)
  clear b1 y0 y1 f0 HCS s5
  have hGb : w.heap.size + 1 + 1 < b := hq5
  have f0 : w8.frozen? ⟨b, 0, none⟩ = false := bx.frozen 0
  have f1 : w8.frozen? ⟨b, 1, none⟩ = false := bx.frozen 1
  have y0 : w8.cell? ⟨b, 0, none⟩ = some (.slice A5 n5 c5) := bx.cell 0
  have y1 : w8.cell? ⟨b, 1, none⟩ = some (.slice R5 m5 d5) := bx.cell 1
  have p8 := put_any w8 b 0 (.slice A8 n8 c8)
  have p9 := put_any (w8.setCell ⟨b, 0, none⟩ (.slice A8 n8 c8)) b 1 (.slice R8 m8 d8)
  replace bx := (bx.put 0 (.slice A8 n8 c8)).put 1 (.slice R8 m8 d8)
  replace q2 := (q2.other (g' := b) (i := 0) (by omega) (.slice A8 n8 c8)).other (g' := b) (i := 1) (by omega) (.slice R8 m8 d8)
  replace q3 := (q3.other (g' := b) (i := 0) (by omega) (.slice A8 n8 c8)).other (g' := b) (i := 1) (by omega) (.slice R8 m8 d8)
  replace o8 := (OwnH.put o8 hbl7 (.slice A8 n8 c8) (.slice R8 m8 d8)).base (base' := w.heap.size + 3) (by omega)
  obtain ⟨A9, n9, c9, R9, m9, d9, e9, e10, s9⟩ := o8.parts
  injection e9 with e9 e9b e9c
  injection e10 with e10 e10b e10c
  subst e9 e9b e9c e10 e10b e10c
  replace b2 := (b2.setCell (p := ⟨b, 0, none⟩) (by show w.heap.size ≤ b; omega) (.slice A8 n8 c8)).setCell (p := ⟨b, 1, none⟩) (by show w.heap.size ≤ b; omega) (.slice R8 m8 d8)
  clear s8 hbl7 p8 p9
  go_upto_region 8 with fail
  clear f0 f1 y0 y1
  generalize (w8.setCell ⟨b, 0, none⟩ (.slice A8 n8 c8)).setCell ⟨b, 1, none⟩ (.slice R8 m8 d8) = w9 at bx q2 q3 o8 s9 b2 ⊢
  have hn8 : n8 ≤ 40 := by rw [← s9.cells.1]; exact HX40.out
  have hm8 : m8 ≤ 4 := by rw [← s9.roots.1, HX4.out]; exact Nat.le_refl _
  clear hn5 hm5 HX4 HX40
  have hn5 := hn8
  have hm5 := hm8
  have s5 := s9
  clear s9 hn8 hm8
  obtain ⟨gx, hgx⟩ : ∃ gx, Hps.gapH X = gx := ⟨_, rfl⟩
  have HGX := Lib.hid hgx
  have HP2 := Lib.hid (mPlace_any A8 R8 n8 c8 m8 d8 X w9 s5 (by omega))
  rw [hgx] at HP2
  clear hgx
  have y0 : w9.cell? ⟨b, 0, none⟩ = some (.slice A8 n8 c8) := bx.cell 0
  have y1 : w9.cell? ⟨b, 1, none⟩ = some (.slice R8 m8 d8) := bx.cell 1
  go_wp2_with fail
  refine HP2.out.mono ?_
  rintro e w10 ⟨rfl, b1⟩
  replace bx := bx.keep b1 bx.lt
  replace q2 := q2.keep b1 q2.lt
  replace q3 := q3.keep b1 q3.lt
  replace b2 := b2.trans (b1.mono b2.size)
  replace s5 := s5.up b1
  replace o8 := o8.below b1 (Nat.le_refl _)
  clear b1 y0 y1 HP2
  by_cases hgl : lim ≤ (gx : Int)
  · have hge2 : (gx : Int) ≥ lim := by omega
    have HF := Lib.hid (Hps.stepSw_full HE.out HC.out ⟨HO1.out, by rw [HRM.out, HGX.out]; exact hgl⟩)
    rw [HRM.out] at HF
    clear hgl
    have y0 : w10.cell? ⟨b, 0, none⟩ = some (.slice A8 n8 c8) := bx.cell 0
    have y1 : w10.cell? ⟨b, 1, none⟩ = some (.slice R8 m8 d8) := bx.cell 1
    have r2 : (w10).frozen? ⟨w.heap.size + 1 + 1, 0, none⟩ = false := q3.frozen 0
    have r3 : (w10).frozen? ⟨w.heap.size + 1 + 1, 1, none⟩ = false := q3.frozen 1
    have r5 : (w10).cell? ⟨w.heap.size + 1 + 1, 0, none⟩ = some (.slice none 0 0) := q3.cell 0
    have r6 : (w10).cell? ⟨w.heap.size + 1 + 1, 1, none⟩ = some (.slice none 0 0) := q3.cell 1
    have q4 := (q3.put 0 (.slice A8 n8 c8)).put 1 (.slice R8 m8 d8)
    have r8 : (((w10).setCell ⟨w.heap.size + 1 + 1, 0, none⟩ (.slice A8 n8 c8)).setCell ⟨w.heap.size + 1 + 1, 1, none⟩ (.slice R8 m8 d8)).cell? ⟨w.heap.size + 1 + 1, 0, none⟩ = some (.slice A8 n8 c8) := q4.cell 0
    have r9 : (((w10).setCell ⟨w.heap.size + 1 + 1, 0, none⟩ (.slice A8 n8 c8)).setCell ⟨w.heap.size + 1 + 1, 1, none⟩ (.slice R8 m8 d8)).cell? ⟨w.heap.size + 1 + 1, 1, none⟩ = some (.slice R8 m8 d8) := q4.cell 1
    have D := Lib.hid (o8.out (g := w.heap.size + 1 + 1) (by omega) b2 (by omega))
    clear q2 q3 q4 o8 b2 s5
    go_wp2_with fail
    exact bodyPost_ret (v := .tuple #[.agg #[.slice A8 n8 c8, .slice R8 m8 d8], .bool false]) (by simp [results, Tryd.results37, go_sem, *]) rfl ⟨_, _, by rw [HF.out], by rw [HF.out]; exact D.out.1, D.out.2⟩
  · have hge2 : ¬ (gx : Int) ≥ lim := by omega
    have HF := Lib.hid (Hps.stepSw_does HE.out HC.out (fun e => by rw [HRM.out, HGX.out] at e; exact hgl e.2))
    rw [HRM.out] at HF
    clear hgl o8
    have z0 : w10.cell? ⟨w.heap.size + 1, 0, none⟩ = some (.int .i64 o.op) := q2.cell 0
    have z1 : w10.cell? ⟨w.heap.size + 1, 1, none⟩ = some (.int .i64 o.a) := q2.cell 1
    have z2 : w10.cell? ⟨w.heap.size + 1, 2, none⟩ = some (.int .i64 o.b) := q2.cell 2
    have z3 : w10.cell? ⟨w.heap.size + 1, 3, none⟩ = some (.int .i64 o.c) := q2.cell 3
    have y0 : w10.cell? ⟨b, 0, none⟩ = some (.slice A8 n8 c8) := bx.cell 0
    have y1 : w10.cell? ⟨b, 1, none⟩ = some (.slice R8 m8 d8) := bx.cell 1
    have hg5 : Hps.gapH (X) ≤ n8 := by have := Hps.gapH_le (X); rw [s5.cells.1] at this; exact this
    have HG5 := Lib.hid hg5
    have hbl := bx.lt
    have hql := q2.lt
    have hGl := q3.lt
    clear hg5
    go_upto_region 10 with fail
    clear z0 z1 z2 z3 y0 y1
    refine wp_region_inv (by kernel_rfl) (by kernel_rfl) (fun L ac ww => ∃ t7 t50 t51 t52 t53 t54 : Value, ac = { tmps := #[heapV A n c R m d, Value.int IntKind.i64 lim, cmV o, Value.pointer (some { block := w.heap.size, off := 0 }), undef, Value.pointer (some { block := w.heap.size + 1, off := 0 }), Value.pointer (some { block := w.heap.size + 1 + 1, off := 0 }), t7, Value.pointer (some { block := b, off := 0 }), Value.agg #[Value.slice A n c, Value.slice R m d], Value.bool true, Value.bool false, Value.bool false, Value.agg #[Value.int IntKind.i64 o.op, Value.int IntKind.i64 o.a, Value.int IntKind.i64 o.b, Value.int IntKind.i64 o.c], Value.bool true, Value.bool false, Value.bool false, Value.bool false, Value.int IntKind.i64 lim, Value.bool true, Value.bool false, Value.bool false, undef, Value.agg #[Value.slice A n c, Value.slice R m d], Value.agg #[Value.int IntKind.i64 o.op, Value.int IntKind.i64 o.a, Value.int IntKind.i64 o.b, Value.int IntKind.i64 o.c], Value.bool true, Value.bool false, undef, undef, Value.agg #[Value.slice A n c, Value.slice R m d], Value.agg #[Value.slice A5 n5 c5, Value.slice R5 m5 d5], Value.pointer (some { block := w.heap.size + 1, off := 0 }), Value.int IntKind.i64 o.op, Value.bool true, Value.bool true, Value.agg #[Value.slice A5 n5 c5, Value.slice R5 m5 d5], Value.int IntKind.i64 ↑gp, Value.int IntKind.i64 lim, Value.bool true, Value.bool true, Value.tuple #[Value.agg #[Value.slice A8 n8 c8, Value.slice R8 m8 d8], Value.int IntKind.i64 ↑(Hps.leakL h).length], Value.agg #[Value.slice A5 n5 c5, Value.slice R5 m5 d5], Value.tuple #[Value.agg #[Value.slice A8 n8 c8, Value.slice R8 m8 d8], Value.int IntKind.i64 ↑(Hps.leakL h).length], Value.agg #[Value.slice A8 n8 c8, Value.slice R8 m8 d8], Value.int IntKind.i64 ↑(Hps.leakL h).length, Value.agg #[Value.slice A8 n8 c8, Value.slice R8 m8 d8], Value.int IntKind.i64 ↑gx, Value.int IntKind.i64 lim, Value.bool (decide (lim ≤ ↑gx)), undef, t50, t51, t52, t53, t54], defers := [] } ∧ (L 5 = false → Below w10.heap.size w10 ww) ∧ (Below w.heap.size w ww) ∧ (L 5 = false → Rw ww (w.heap.size + 1 + 1) 26 #[.slice none 0 0, .slice none 0 0]) ∧ (L 5 = true → ∀ q, q < 5 → L q = true) ∧ (L 0 = true → t50 = heapV A8 n8 c8 R8 m8 d8) ∧ (L 1 = true → t51 = cmV o) ∧ (L 2 = true → t52 = heapV A8 n8 c8 R8 m8 d8) ∧ (L 3 = true → t53 = .int .i64 (Hps.gapH (X) : Nat)) ∧ (L 4 = true → ∃ (A7 : Option Addr) (n7 c7 : Nat) (R7 : Option Addr) (m7 d7 : Nat), t54 = heapV A7 n7 c7 R7 m7 d7 ∧ OwnH ww w10.heap.size (.slice A7 n7 c7) (.slice R7 m7 d7) (Hps.doH (X) o (Hps.gapH (X)))) ∧ (L 5 = true → ∃ (A7 : Option Addr) (n7 c7 : Nat) (R7 : Option Addr) (m7 d7 : Nat), Rw ww (w.heap.size + 1 + 1) 26 #[.slice A7 n7 c7, .slice R7 m7 d7] ∧ OwnH ww w10.heap.size (.slice A7 n7 c7) (.slice R7 m7 d7) (Hps.doH (X) o (Hps.gapH (X)))) ∧ (L 6 = true → t7 = .bool true)) ?h0 ?hstep ?hdone
    case h0 => exact ⟨_, _, _, _, _, _, rfl, fun _ => (Below.refl _ _).drew, b2.drew, fun _ => q3.keep (Below.refl _ _).drew q3.lt, fun h => absurd h Bool.false_ne_true, (fun h => absurd h Bool.false_ne_true), (fun h => absurd h Bool.false_ne_true), (fun h => absurd h Bool.false_ne_true), (fun h => absurd h Bool.false_ne_true), (fun h => absurd h Bool.false_ne_true), (fun h => absurd h Bool.false_ne_true), (fun h => absurd h Bool.false_ne_true)⟩
    case hstep =>
      rintro L ac ww i o ho hL hd ⟨t7, t50, t51, t52, t53, t54, rfl, I0, I1, I2, I3, f0, f1, f2, f3, f4, f5, f6⟩
      have hi : i < 7 := (Array.getElem?_eq_some_iff.1 ho).1
      obtain rfl | rfl | rfl | rfl | rfl | rfl | rfl : i = 0 ∨ i = 1 ∨ i = 2 ∨ i = 3 ∨ i = 4 ∨ i = 5 ∨ i = 6 := by omega
      · obtain rfl := Option.some.inj ho
        have h5 : L 5 = false := by
          cases e : L 5
          · rfl
          · exact absurd (I3 e 0 (by omega)) (by rw [hL]; decide)
        have J0 := I0 h5
        have v0 : ww.cell? ⟨b, 0, none⟩ = some (.slice A8 n8 c8) := (bx.keep J0 hbl).cell 0
        have v1 : ww.cell? ⟨b, 1, none⟩ = some (.slice R8 m8 d8) := (bx.keep J0 hbl).cell 1
        refine wpOp_step rfl (fun K' hK => ?_)
        go_simp
        refine hK _ _ ?_
        exact ⟨_, _, _, _, _, _, rfl, (fun h => I0 ((upd_other (by decide)).symm.trans h)), (I1), (fun h => I2 ((upd_other (by decide)).symm.trans h)), (fun h q hq => upd_mono (I3 (upd_ne h (by decide)) q hq)), (fun _ => rfl), (kp f1), (kp f2), (kp f3), (kp f4), (kp f5), (kp f6)⟩
      · obtain rfl := Option.some.inj ho
        have h5 : L 5 = false := by
          cases e : L 5
          · rfl
          · exact absurd (I3 e 1 (by omega)) (by rw [hL]; decide)
        have J0 := I0 h5
        have v0 : ww.cell? ⟨w.heap.size + 1, 0, none⟩ = some (.int .i64 o.op) := (q2.keep J0 hql).cell 0
        have v1 : ww.cell? ⟨w.heap.size + 1, 1, none⟩ = some (.int .i64 o.a) := (q2.keep J0 hql).cell 1
        have v2 : ww.cell? ⟨w.heap.size + 1, 2, none⟩ = some (.int .i64 o.b) := (q2.keep J0 hql).cell 2
        have v3 : ww.cell? ⟨w.heap.size + 1, 3, none⟩ = some (.int .i64 o.c) := (q2.keep J0 hql).cell 3
        refine wpOp_step rfl (fun K' hK => ?_)
        go_simp
        refine hK _ _ ?_
        exact ⟨_, _, _, _, _, _, rfl, (fun h => I0 ((upd_other (by decide)).symm.trans h)), (I1), (fun h => I2 ((upd_other (by decide)).symm.trans h)), (fun h q hq => upd_mono (I3 (upd_ne h (by decide)) q hq)), (kp f0), (fun _ => rfl), (kp f2), (kp f3), (kp f4), (kp f5), (kp f6)⟩
      · obtain rfl := Option.some.inj ho
        have h5 : L 5 = false := by
          cases e : L 5
          · rfl
          · exact absurd (I3 e 2 (by omega)) (by rw [hL]; decide)
        have J0 := I0 h5
        have v0 : ww.cell? ⟨b, 0, none⟩ = some (.slice A8 n8 c8) := (bx.keep J0 hbl).cell 0
        have v1 : ww.cell? ⟨b, 1, none⟩ = some (.slice R8 m8 d8) := (bx.keep J0 hbl).cell 1
        refine wpOp_step rfl (fun K' hK => ?_)
        go_simp
        refine hK _ _ ?_
        exact ⟨_, _, _, _, _, _, rfl, (fun h => I0 ((upd_other (by decide)).symm.trans h)), (I1), (fun h => I2 ((upd_other (by decide)).symm.trans h)), (fun h q hq => upd_mono (I3 (upd_ne h (by decide)) q hq)), (kp f0), (kp f1), (fun _ => rfl), (kp f3), (kp f4), (kp f5), (kp f6)⟩
      · obtain rfl := Option.some.inj ho
        have g2 := f2 (hd ⟨2, .data⟩ (by simp) rfl)
        subst g2
        have h5 : L 5 = false := by
          cases e : L 5
          · rfl
          · exact absurd (I3 e 3 (by omega)) (by rw [hL]; decide)
        have J0 := I0 h5
        refine wpOp_step rfl (fun K' hK => ?_)
        go_simp
        refine (mPlace_any _ _ _ _ _ _ (X) ww (s5.up J0) (by omega)).mono ?_
        rintro e w' ⟨rfl, b5⟩
        refine hK _ _ ?_
        exact ⟨_, _, _, _, _, _, rfl, (fun _ => J0.trans (b5.mono J0.size)), (I1.trans (b5.mono I1.size)), (fun h => (I2 h5).keep b5 (I2 h5).lt), (fun h q hq => upd_mono (I3 (upd_ne h (by decide)) q hq)), (kp f0), (kp f1), (kp f2), (fun _ => rfl), (fun h => by
          obtain ⟨A7, n7, c7, R7, m7, d7, e7, o7⟩ := f4 (upd_ne h (by decide))
          exact ⟨A7, n7, c7, R7, m7, d7, e7, o7.below b5 (Nat.le_refl _)⟩), (fun h => absurd ((upd_other (by decide)).symm.trans h) (by rw [h5]; decide)), (kp f6)⟩
      · obtain rfl := Option.some.inj ho
        have g0 := f0 (hd ⟨0, .data⟩ (by simp) rfl)
        have g1 := f1 (hd ⟨1, .data⟩ (by simp) rfl)
        have g3 := f3 (hd ⟨3, .data⟩ (by simp) rfl)
        subst g0
        subst g1
        subst g3
        have h5 : L 5 = false := by
          cases e : L 5
          · rfl
          · exact absurd (I3 e 4 (by omega)) (by rw [hL]; decide)
        have J0 := I0 h5
        refine wpOp_step rfl (fun K' hK => ?_)
        go_simp
        refine (l8Do_any A8 R8 n8 c8 m8 d8 (X) o (Hps.gapH (X)) ww (s5.up J0) HCX.out (fun _ => HG5.out)).mono ?_
        rintro e w' ⟨vc7, vr7, rfl, o7, b5⟩
        obtain ⟨A7, n7, c7, R7, m7, d7, rfl, rfl⟩ := o7.slices
        refine hK _ _ ?_
        exact ⟨_, _, _, _, _, _, rfl, (fun _ => J0.trans (b5.mono J0.size)), (I1.trans (b5.mono I1.size)), (fun h => (I2 h5).keep b5 (I2 h5).lt), (fun h q hq => upd_mono (I3 (upd_ne h (by decide)) q hq)), (kp f0), (kp f1), (kp f2), (kp f3), (fun _ => ⟨A7, n7, c7, R7, m7, d7, rfl, o7.base J0.size⟩), (fun h => absurd ((upd_other (by decide)).symm.trans h) (by rw [h5]; decide)), (kp f6)⟩
      · obtain rfl := Option.some.inj ho
        have g4 := f4 (hd ⟨4, .data⟩ (by simp) rfl)
        obtain ⟨A7, n7, c7, R7, m7, d7, rfl, o7⟩ := g4
        have rz := I2 hL
        have u0 := rz.cell 0
        have u1 := rz.cell 1
        have v0 := rz.frozen 0
        have v1 := rz.frozen 1
        simp at u0 u1
        refine wpOp_step rfl (fun K' hK => ?_)
        go_simp
        refine hK _ _ ?_
        exact ⟨_, _, _, _, _, _, rfl, (fun h => absurd (upd_self.symm.trans h) (by decide)), ((I1.setCell (p := ⟨w.heap.size + 1 + 1, 0, none⟩) (by show w.heap.size ≤ w.heap.size + 1 + 1; omega) _).setCell (p := ⟨w.heap.size + 1 + 1, 1, none⟩) (by show w.heap.size ≤ w.heap.size + 1 + 1; omega) _), (fun h => absurd (upd_self.symm.trans h) (by decide)), (fun _ q hq => upd_mono (by
          obtain rfl | rfl | rfl | rfl | rfl : q = 0 ∨ q = 1 ∨ q = 2 ∨ q = 3 ∨ q = 4 := by omega
          all_goals exact hd ⟨_, .phase⟩ (by simp) rfl)), (kp f0), (kp f1), (kp f2), (kp f3), (fun _ => ⟨A7, n7, c7, R7, m7, d7, rfl, o7.put (by omega) _ _⟩), (fun _ => ⟨A7, n7, c7, R7, m7, d7, (rz.put 0 _).put 1 _, o7.put (by omega) _ _⟩), (kp f6)⟩
      · obtain rfl := Option.some.inj ho
        refine wpOp_step rfl (fun K' hK => ?_)
        go_simp
        refine hK _ _ ?_
        exact ⟨_, _, _, _, _, _, rfl, (fun h => I0 ((upd_other (by decide)).symm.trans h)), (I1), (fun h => I2 ((upd_other (by decide)).symm.trans h)), (fun h q hq => upd_mono (I3 (upd_ne h (by decide)) q hq)), (kp f0), (kp f1), (kp f2), (kp f3), (kp f4), (kp f5), (fun _ => rfl)⟩
    case hdone =>
      rintro L ac ww hall ⟨t7, t50, t51, t52, t53, t54, rfl, I0, I1, I2, I3, f0, f1, f2, f3, f4, f5, f6⟩
      have e0 := f0 (hall 0 (by decide))
      have e1 := f1 (hall 1 (by decide))
      have e2 := f2 (hall 2 (by decide))
      have e3 := f3 (hall 3 (by decide))
      have e4 := f4 (hall 4 (by decide))
      have e5 := f5 (hall 5 (by decide))
      have e6 := f6 (hall 6 (by decide))
      clear f0 f1 f2 f3 f4 f5 f6
      obtain ⟨A7, n7, c7, R7, m7, d7, r7, o7⟩ := e5
      subst e6
      have q0 := r7.cell 0
      have q5 := r7.cell 1
      simp at q0 q5
      have D := Lib.hid (And.intro (o7.base (base' := w.heap.size) (by have := b2.size; omega)) I1)
      clear e0 e1 e2 e3 e4 I0 I1 I2 I3 hall o7 r7
      go_wp2_with fail
      exact bodyPost_ret (v := .tuple #[.agg #[.slice A7 n7 c7, .slice R7 m7 d7], .bool true]) (by simp [results, Tryd.results37, go_sem, *]) rfl ⟨_, _, by rw [HF.out], by rw [HF.out]; exact D.out.1, D.out.2⟩
end Go.Proofs.YthmddmddcdofaaaDoor

namespace Go.Proofs.YthmddmddcdofaaaDoor
open Go.RowKit
set_option maxRecDepth 100000
end Go.Proofs.YthmddmddcdofaaaDoor

namespace Go.Proofs.YthmddmddcdofaaaDoor
open Go.RowKit
set_option maxRecDepth 100000
theorem Hps.stepSw_roomS {h : Hp} {limit : Int} {o : Cm} (e : Hps.validH h = true ∧ Hps.okCm o = true ∧ 1 ≤ limit ∧ limit ≤ 40) (h1 : o.op = 1) : Hps.stepSw h limit o = if (Hps.gapH (Hps.roomS h limit) : Int) < limit then (Hps.doH (Hps.roomS h limit) o (Hps.gapH (Hps.roomS h limit)), true) else (Hps.roomS h limit, false) := by
  rw [Hps.stepSw_room e h1, Hps.roomS]
  by_cases h2 : (Hps.gapH h : Int) < limit
  · rw [if_pos h2, if_pos h2, if_pos h2]
  · rw [if_neg h2, if_neg h2]
set_option maxHeartbeats 2000000 in
theorem sweeperStep_new (E : KeptL) (w0 w : World) (b : Nat) (vc vr : Value) (rvs : List Value) (h : Hp) (limit : Int) {a ob : Nat} {oc : Int} (hT : TzT w0) (S : SwSt E w0 w b vc vr rvs h) (hv : Hps.validH h = true) (ha : a < 4) (hb3 : ob ≤ 3) :
    Calls Tryd.prog 85 #[.pointer (some ⟨b, 0, none⟩), cmV ⟨1, a, ob, oc⟩, .int .i64 limit] w fun e w' => e = .returned (.bool (decide ((Hps.gapH (Hps.roomS h limit) : Int) < limit))) ∧ ∃ vc' vr' rvs', SwSt E w0 w' b vc' vr' rvs' (if (Hps.gapH (Hps.roomS h limit) : Int) < limit then Hps.doH (Hps.roomS h limit) ⟨1, a, ob, oc⟩ (Hps.gapH (Hps.roomS h limit)) else Hps.roomS h limit) := by
  have HN := Lib.hid (fun w1 (S : SwSt E w0 w1 b vc vr rvs h) => sweeperNew_any (oc := oc) E w0 w1 b vc vr rvs h limit hT S hv ha hb3)
  obtain ⟨r, hr⟩ : ∃ r, decide ((Hps.gapH (Hps.roomS h limit) : Int) < limit) = r := ⟨_, rfl⟩
  obtain ⟨Y, hY⟩ : ∃ Y, (if (Hps.gapH (Hps.roomS h limit) : Int) < limit then Hps.doH (Hps.roomS h limit) ⟨1, a, ob, oc⟩ (Hps.gapH (Hps.roomS h limit)) else Hps.roomS h limit) = Y := ⟨_, rfl⟩
  rw [hr, hY] at HN ⊢
  have bA : Below w.heap.size w (w.alloc (.cells #[.int .i64 1, .int .i64 a, .int .i64 ob, .int .i64 oc] 49)) := (Below.refl _ _).alloc (Nat.le_refl _) _
  have Q := Rw.new w 49 #[.int .i64 1, .int .i64 a, .int .i64 ob, .int .i64 oc]
  have S1 := Lib.hid (S.up bA)
  clear hr hY S hv hT
  go_enter Tryd.func85, Tryd.ntmps85
  go_upto_region 1 with fail
  generalize w.alloc (.cells #[.int .i64 1, .int .i64 a, .int .i64 ob, .int .i64 oc] 49) = w1 at S1 Q bA ⊢
  generalize w.heap.size = q at Q ⊢
  have y0 : w1.cell? ⟨q, 0, none⟩ = some (.int .i64 1) := Q.cell 0
  have y1 : w1.cell? ⟨q, 1, none⟩ = some (.int .i64 a) := Q.cell 1
  have y2 : w1.cell? ⟨q, 2, none⟩ = some (.int .i64 ob) := Q.cell 2
  have y3 : w1.cell? ⟨q, 3, none⟩ = some (.int .i64 oc) := Q.cell 3
  clear Q bA
  go_wp2_with fail
  refine (HN.out _ S1.out).mono ?_
  rintro e w2 ⟨rfl, vc2, vr2, rv2, S2⟩
  have SF := Lib.hid S2
  clear S2 y0 y1 y2 y3
  go_wp2_with fail
  go_ret
  exact ⟨rfl, _, _, _, SF.out⟩
theorem sweeperStep_any (E : KeptL) (w0 w : World) (b : Nat) (vc vr : Value) (rvs : List Value) (h : Hp) (o : Cm) (limit : Int) (hT : TzT w0) (S : SwSt E w0 w b vc vr rvs h) (he : Hps.validH h = true ∧ Hps.okCm o = true ∧ 1 ≤ limit ∧ limit ≤ 40) :
    Calls Tryd.prog 85 #[.pointer (some ⟨b, 0, none⟩), cmV o, .int .i64 limit] w fun e w' => e = .returned (.bool (Hps.stepSw h limit o).2) ∧ ∃ vc' vr' rvs', SwSt E w0 w' b vc' vr' rvs' (Hps.stepSw h limit o).1 := by
  have he2 := he
  obtain ⟨hv, ho, _, _⟩ := he2
  by_cases h1 : o.op = 1
  · rw [Hps.stepSw_roomS he h1]
    obtain ⟨op, a, ob, oc⟩ := o
    simp only at h1
    subst h1
    obtain ⟨⟨a1, a2⟩, ⟨b1, b2⟩, _⟩ := (Hps.okCm_new rfl).1 ho
    simp only at a1 a2 b1 b2
    obtain ⟨a, rfl⟩ := Int.eq_ofNat_of_zero_le a1
    obtain ⟨ob, rfl⟩ := Int.eq_ofNat_of_zero_le b1
    refine (sweeperStep_new (oc := oc) E w0 w b vc vr rvs h limit hT S hv (by omega) (by omega)).mono ?_
    rintro e w' ⟨rfl, vc', vr', rvs', S'⟩
    by_cases h2 : (Hps.gapH (Hps.roomS h limit) : Int) < limit
    · rw [if_pos h2] at S' ⊢
      exact ⟨by rw [decide_eq_true h2], vc', vr', rvs', S'⟩
    · rw [if_neg h2] at S' ⊢
      exact ⟨by rw [decide_eq_false h2], vc', vr', rvs', S'⟩
  · rw [Hps.stepSw_other he h1]
    have main : Calls Tryd.prog 85 #[.pointer (some ⟨b, 0, none⟩), cmV o, .int .i64 limit] w fun e w' => e = .returned (.bool (Hps.canH h o)) ∧ ∃ vc' vr' rvs', SwSt E w0 w' b vc' vr' rvs' (if Hps.canH h o = true then Hps.doH h o h.cs.length else h) := by
      have hopc := Hps.okCm_op ho
      obtain ⟨op, a, bb, cc⟩ := o
      simp only at h1 hopc
      obtain rfl | rfl | rfl | rfl | rfl : op = 2 ∨ op = 3 ∨ op = 4 ∨ op = 5 ∨ op = 6 := by omega
      · exact sweeperStep_walk _ _ _ _ _ E w0 w b vc vr rvs h _ limit S hv ho h1 (operationOf_2 a bb cc) (fun hv ho => poss_get hv ho rfl) exec_2 (run_entered Tryd.func148 (by decide) (by rfl)) (run_entered Tryd.func149 (by decide) (by rfl))
      · exact sweeperStep_walk _ _ _ _ _ E w0 w b vc vr rvs h _ limit S hv ho h1 (operationOf_3 a bb cc) (fun hv ho => poss_set hv ho rfl) exec_3 (run_entered Tryd.func150 (by decide) (by rfl)) (run_entered Tryd.func151 (by decide) (by rfl))
      · exact sweeperStep_walk _ _ _ _ _ E w0 w b vc vr rvs h _ limit S hv ho h1 (operationOf_4 a bb cc) (fun hv ho => poss_always (Hps.canH_else hv ho (by simp) (by simp) (by simp))) exec_4 (run_entered Tryd.func146 (by decide) (by rfl)) (run_entered Tryd.func152 (by decide) (by rfl))
      · exact sweeperStep_walk _ _ _ _ _ E w0 w b vc vr rvs h _ limit S hv ho h1 (operationOf_5 a bb cc) (fun hv ho => poss_always (Hps.canH_else hv ho (by simp) (by simp) (by simp))) exec_5 (run_entered Tryd.func146 (by decide) (by rfl)) (run_entered Tryd.func153 (by decide) (by rfl))
      · exact sweeperStep_walk _ _ _ _ _ E w0 w b vc vr rvs h _ limit S hv ho h1 (operationOf_6 a bb cc) (fun hv ho => poss_data hv ho rfl) exec_6 (run_entered Tryd.func154 (by decide) (by rfl)) (run_entered Tryd.func155 (by decide) (by rfl))
    refine main.mono ?_
    rintro e w' ⟨rfl, vc', vr', rvs', S'⟩
    cases hc : Hps.canH h o
    · rw [hc, if_neg (by decide)] at S'
      exact ⟨rfl, vc', vr', rvs', S'⟩
    · rw [hc, if_pos rfl] at S'
      exact ⟨rfl, vc', vr', rvs', S'⟩
set_option maxHeartbeats 4000000 in
theorem stepSweep_any (A R : Option Addr) (n c m d : Nat) (lim : Int) (h : Hp) (o : Cm) (w : World) (hT : TzT w) (hs : HS w w.heap.size A n R m h) (hn : n ≤ 1099511627776) (hm : m ≤ 1099511627776) (hnc : n ≤ c) (hmd : m ≤ d) :
    Calls Tryd.prog 36 #[heapV A n c R m d, .int .i64 lim, cmV o] w (GaveH2 w (Hps.stepSw h lim o).1 (Hps.stepSw h lim o).2) := by
  have hlc := hs.cells.1
  have hlr := hs.roots.1
  have b2 : Below w.heap.size w (((w.alloc (.cells #[.slice A n c, .slice R m d] 26)).alloc (.cells #[.int .i64 o.op, .int .i64 o.a, .int .i64 o.b, .int .i64 o.c] 49)).alloc (.cells #[.slice none 0 0, .slice none 0 0] 26)) := (((Below.refl _ _).alloc (Nat.le_refl _) _).alloc (by simp) _).alloc (by simp; omega) _
  have q1 := ((Rw.new w 26 #[.slice A n c, .slice R m d]).alloc (.cells #[.int .i64 o.op, .int .i64 o.a, .int .i64 o.b, .int .i64 o.c] 49)).alloc (.cells #[.slice none 0 0, .slice none 0 0] 26)
  have q2 := (Rw.new (w.alloc (.cells #[.slice A n c, .slice R m d] 26)) 49 #[.int .i64 o.op, .int .i64 o.a, .int .i64 o.b, .int .i64 o.c]).alloc (.cells #[.slice none 0 0, .slice none 0 0] 26)
  have q3 := Rw.new ((w.alloc (.cells #[.slice A n c, .slice R m d] 26)).alloc (.cells #[.int .i64 o.op, .int .i64 o.a, .int .i64 o.b, .int .i64 o.c] 49)) 26 #[.slice none 0 0, .slice none 0 0]
  simp only [World.size_alloc] at q2 q3
  have s2 := hs.up b2
  have hT2 := hT.below b2
  have HLC := Lib.hid hlc
  have HLR := Lib.hid hlr
  clear hs hT hlc hlr
  go_enter Tryd.func36, Tryd.ntmps36
  go_upto_region 1 with fail
  generalize ((w.alloc (.cells #[.slice A n c, .slice R m d] 26)).alloc (.cells #[.int .i64 o.op, .int .i64 o.a, .int .i64 o.b, .int .i64 o.c] 49)).alloc (.cells #[.slice none 0 0, .slice none 0 0] 26) = w2 at b2 q1 q2 q3 s2 hT2 ⊢
  have x0 : w2.cell? ⟨w.heap.size, 0, none⟩ = some (.slice A n c) := q1.cell 0
  have x1 : w2.cell? ⟨w.heap.size, 1, none⟩ = some (.slice R m d) := q1.cell 1
  go_wp2_with fail
  refine (heapValid_any _ _ _ _ _ _ h _ s2 hn hm hnc hmd).mono ?_
  obtain ⟨r, hv⟩ : ∃ r, Hps.validH h = r := ⟨_, rfl⟩
  rw [hv]
  rintro e w3 ⟨rfl, b1⟩
  replace q1 := q1.keep b1 q1.lt
  replace q2 := q2.keep b1 q2.lt
  replace q3 := q3.keep b1 q3.lt
  replace s2 := s2.up b1
  replace hT2 := hT2.below b1
  replace b2 := b2.trans (b1.mono b2.size)
  clear b1 x0 x1
  cases r
  · have HF := Lib.hid (Hps.stepSw_no (h := h) (limit := lim) (o := o) (fun e => by rw [hv] at e; cases e.1))
    have r2 : (w3).frozen? ⟨w.heap.size + 1 + 1, 0, none⟩ = false := q3.frozen 0
    have r3 : (w3).frozen? ⟨w.heap.size + 1 + 1, 1, none⟩ = false := q3.frozen 1
    have r4 : (w3).cell? ⟨w.heap.size + 1 + 1, 0, none⟩ = some (.slice none 0 0) := q3.cell 0
    have r5 : (w3).cell? ⟨w.heap.size + 1 + 1, 1, none⟩ = some (.slice none 0 0) := q3.cell 1
    have r6 : (((w3).setCell ⟨w.heap.size + 1 + 1, 0, none⟩ (.slice none 0 0)).setCell ⟨w.heap.size + 1 + 1, 1, none⟩ (.slice none 0 0)).cell? ⟨w.heap.size + 1 + 1, 0, none⟩ = some (.slice none 0 0) := ((q3.put 0 (.slice none 0 0)).put 1 (.slice none 0 0)).cell 0
    have r7 : (((w3).setCell ⟨w.heap.size + 1 + 1, 0, none⟩ (.slice none 0 0)).setCell ⟨w.heap.size + 1 + 1, 1, none⟩ (.slice none 0 0)).cell? ⟨w.heap.size + 1 + 1, 1, none⟩ = some (.slice none 0 0) := ((q3.put 0 (.slice none 0 0)).put 1 (.slice none 0 0)).cell 1
    have D := Lib.hid (OwnH.out (w := w) (g := w.heap.size + 1 + 1) (own_zeroH w3 w3.heap.size (Nat.le_refl _)) (by exact q3.lt) (b2) (by omega))
    clear q1 q2 q3 s2 hT2 b2 hv
    go_wp2_with fail
    exact bodyPost_ret (v := .tuple #[.agg #[.slice none 0 0, .slice none 0 0], .bool false]) (by simp [results, Tryd.results36, go_sem, *]) rfl ⟨_, _, by rw [HF.out], by rw [HF.out]; exact D.out.1, D.out.2⟩
  have HV := Lib.hid hv
  clear hv
  go_wp2_with fail
  refine (limitValid_any lim w3).mono ?_
  obtain ⟨r, hl⟩ : ∃ r, decide (1 ≤ lim ∧ lim ≤ 40) = r := ⟨_, rfl⟩
  rw [hl]
  rintro e w4 ⟨rfl, rfl⟩
  cases r
  · have hl2 := of_decide_eq_false hl
    have HF := Lib.hid (Hps.stepSw_no (h := h) (limit := lim) (o := o) (fun e => hl2 e.2.2))
    clear hl2
    have r2 : (w3).frozen? ⟨w.heap.size + 1 + 1, 0, none⟩ = false := q3.frozen 0
    have r3 : (w3).frozen? ⟨w.heap.size + 1 + 1, 1, none⟩ = false := q3.frozen 1
    have r4 : (w3).cell? ⟨w.heap.size + 1 + 1, 0, none⟩ = some (.slice none 0 0) := q3.cell 0
    have r5 : (w3).cell? ⟨w.heap.size + 1 + 1, 1, none⟩ = some (.slice none 0 0) := q3.cell 1
    have r6 : (((w3).setCell ⟨w.heap.size + 1 + 1, 0, none⟩ (.slice none 0 0)).setCell ⟨w.heap.size + 1 + 1, 1, none⟩ (.slice none 0 0)).cell? ⟨w.heap.size + 1 + 1, 0, none⟩ = some (.slice none 0 0) := ((q3.put 0 (.slice none 0 0)).put 1 (.slice none 0 0)).cell 0
    have r7 : (((w3).setCell ⟨w.heap.size + 1 + 1, 0, none⟩ (.slice none 0 0)).setCell ⟨w.heap.size + 1 + 1, 1, none⟩ (.slice none 0 0)).cell? ⟨w.heap.size + 1 + 1, 1, none⟩ = some (.slice none 0 0) := ((q3.put 0 (.slice none 0 0)).put 1 (.slice none 0 0)).cell 1
    have D := Lib.hid (OwnH.out (w := w) (g := w.heap.size + 1 + 1) (own_zeroH w3 w3.heap.size (Nat.le_refl _)) (by exact q3.lt) (b2) (by omega))
    clear q1 q2 q3 s2 hT2 b2 hl
    go_wp2_with fail
    exact bodyPost_ret (v := .tuple #[.agg #[.slice none 0 0, .slice none 0 0], .bool false]) (by simp [results, Tryd.results36, go_sem, *]) rfl ⟨_, _, by rw [HF.out], by rw [HF.out]; exact D.out.1, D.out.2⟩
  have HL := Lib.hid (of_decide_eq_true hl)
  have y0 : w3.cell? ⟨w.heap.size + 1, 0, none⟩ = some (.int .i64 o.op) := q2.cell 0
  have y1 : w3.cell? ⟨w.heap.size + 1, 1, none⟩ = some (.int .i64 o.a) := q2.cell 1
  have y2 : w3.cell? ⟨w.heap.size + 1, 2, none⟩ = some (.int .i64 o.b) := q2.cell 2
  have y3 : w3.cell? ⟨w.heap.size + 1, 3, none⟩ = some (.int .i64 o.c) := q2.cell 3
  clear hl
  go_wp2_with fail
  refine (commandValid_any o w3).mono ?_
  obtain ⟨r, ho⟩ : ∃ r, Hps.okCm o = r := ⟨_, rfl⟩
  rw [ho]
  rintro e w4 ⟨rfl, b1⟩
  replace q1 := q1.keep b1 q1.lt
  replace q2 := q2.keep b1 q2.lt
  replace q3 := q3.keep b1 q3.lt
  replace s2 := s2.up b1
  replace hT2 := hT2.below b1
  replace b2 := b2.trans (b1.mono b2.size)
  clear b1 y0 y1 y2 y3
  cases r
  · have HF := Lib.hid (Hps.stepSw_no (h := h) (limit := lim) (o := o) (fun e => by rw [ho] at e; cases e.2.1))
    have r2 : (w4).frozen? ⟨w.heap.size + 1 + 1, 0, none⟩ = false := q3.frozen 0
    have r3 : (w4).frozen? ⟨w.heap.size + 1 + 1, 1, none⟩ = false := q3.frozen 1
    have r4 : (w4).cell? ⟨w.heap.size + 1 + 1, 0, none⟩ = some (.slice none 0 0) := q3.cell 0
    have r5 : (w4).cell? ⟨w.heap.size + 1 + 1, 1, none⟩ = some (.slice none 0 0) := q3.cell 1
    have r6 : (((w4).setCell ⟨w.heap.size + 1 + 1, 0, none⟩ (.slice none 0 0)).setCell ⟨w.heap.size + 1 + 1, 1, none⟩ (.slice none 0 0)).cell? ⟨w.heap.size + 1 + 1, 0, none⟩ = some (.slice none 0 0) := ((q3.put 0 (.slice none 0 0)).put 1 (.slice none 0 0)).cell 0
    have r7 : (((w4).setCell ⟨w.heap.size + 1 + 1, 0, none⟩ (.slice none 0 0)).setCell ⟨w.heap.size + 1 + 1, 1, none⟩ (.slice none 0 0)).cell? ⟨w.heap.size + 1 + 1, 1, none⟩ = some (.slice none 0 0) := ((q3.put 0 (.slice none 0 0)).put 1 (.slice none 0 0)).cell 1
    have D := Lib.hid (OwnH.out (w := w) (g := w.heap.size + 1 + 1) (own_zeroH w4 w4.heap.size (Nat.le_refl _)) (by exact q3.lt) (b2) (by omega))
    clear q1 q2 q3 s2 hT2 b2 ho
    go_wp2_with fail
    exact bodyPost_ret (v := .tuple #[.agg #[.slice none 0 0, .slice none 0 0], .bool false]) (by simp [results, Tryd.results36, go_sem, *]) rfl ⟨_, _, by rw [HF.out], by rw [HF.out]; exact D.out.1, D.out.2⟩
  have HE := Lib.hid (show Hps.validH h = true ∧ Hps.okCm o = true ∧ 1 ≤ lim ∧ lim ≤ 40 from ⟨HV.out, ho, HL.out⟩)
  obtain ⟨h40, hr4, h3⟩ := Hps.valid_small HV.out
  rw [HLC.out] at h40
  rw [HLR.out] at hr4
  have hm4 : m ≤ 4 := by omega
  have H3 := Lib.hid (fun cl (hcl : cl ∈ h.cs) => show cl.r.length ≤ 1000000 by have := h3 cl hcl; omega)
  have x0 : w4.cell? ⟨w.heap.size, 0, none⟩ = some (.slice A n c) := q1.cell 0
  have x1 : w4.cell? ⟨w.heap.size, 1, none⟩ = some (.slice R m d) := q1.cell 1
  have hrl := q3.lt
  have hcl := q2.lt
  clear hr4 h3 ho
  go_wp2_with fail
  refine (sweeperOf_any A R n c m d h w4 s2 (by omega) (by omega) H3.out).mono ?_
  rintro e w5 ⟨vc, vr, vk, rfl, oc, b5⟩
  obtain ⟨rv, S⟩ := SwSt.of oc b5
  obtain ⟨A5, n5, c5, R5, m5, d5, K5, p5, q5, rfl, rfl, rfl⟩ := oc.slices
  have Q3 := Lib.hid q3
  have Q2 := Lib.hid q2
  have B2 := Lib.hid b2
  have HT := Lib.hid hT2
  clear oc b5 x0 x1 q1 q2 q3 b2 s2 hT2
  go_upto_region 4 with fail
  generalize w5.alloc (.cells #[.slice A5 n5 c5, .slice R5 m5 d5, .slice K5 p5 q5] 104) = w6 at S ⊢
  generalize w5.heap.size = b at S ⊢
  have HSW := Lib.hid (sweeperStep_any [] w4 w6 b _ _ rv h o lim HT.out S HE.out)
  have q2 := Q2.out.keep S.low hcl
  have y0 : w6.cell? ⟨w.heap.size + 1, 0, none⟩ = some (.int .i64 o.op) := q2.cell 0
  have y1 : w6.cell? ⟨w.heap.size + 1, 1, none⟩ = some (.int .i64 o.a) := q2.cell 1
  have y2 : w6.cell? ⟨w.heap.size + 1, 2, none⟩ = some (.int .i64 o.b) := q2.cell 2
  have y3 : w6.cell? ⟨w.heap.size + 1, 3, none⟩ = some (.int .i64 o.c) := q2.cell 3
  obtain ⟨X, hX⟩ : ∃ X, (Hps.stepSw h lim o).1 = X := ⟨_, rfl⟩
  obtain ⟨r, hr⟩ : ∃ r, (Hps.stepSw h lim o).2 = r := ⟨_, rfl⟩
  rw [hX, hr] at HSW
  have HX := Lib.hid hX
  have HR := Lib.hid hr
  clear S q2 hX hr
  go_wp2_with fail
  refine HSW.out.mono ?_
  rintro e w7 ⟨rfl, vc7, vr7, rv7, S7⟩
  obtain ⟨A7, c7, R7, d7, rfl, rfl, -⟩ := S7.own.form
  obtain ⟨n7, hn7⟩ : ∃ n7, X.cs.length = n7 := ⟨_, rfl⟩
  obtain ⟨m7, hm7⟩ : ∃ m7, X.rt.length = m7 := ⟨_, rfl⟩
  rw [hn7, hm7] at S7
  have z0 : w7.cell? ⟨b, 0, none⟩ = some (.slice A7 n7 c7) := S7.c0
  have z1 : w7.cell? ⟨b, 1, none⟩ = some (.slice R7 m7 d7) := S7.c1
  have q3 := Q3.out.keep S7.low hrl
  have b2 := B2.out.trans (S7.low.mono B2.out.size)
  have hw4 := B2.out.size
  have OH := S7.ownH
  clear S7 HSW y0 y1 y2 y3 hn7 hm7
  have r2 : (w7).frozen? ⟨w.heap.size + 1 + 1, 0, none⟩ = false := q3.frozen 0
  have r3 : (w7).frozen? ⟨w.heap.size + 1 + 1, 1, none⟩ = false := q3.frozen 1
  have r4 : (w7).cell? ⟨w.heap.size + 1 + 1, 0, none⟩ = some (.slice none 0 0) := q3.cell 0
  have r5 : (w7).cell? ⟨w.heap.size + 1 + 1, 1, none⟩ = some (.slice none 0 0) := q3.cell 1
  have r6 : (((w7).setCell ⟨w.heap.size + 1 + 1, 0, none⟩ (.slice A7 n7 c7)).setCell ⟨w.heap.size + 1 + 1, 1, none⟩ (.slice R7 m7 d7)).cell? ⟨w.heap.size + 1 + 1, 0, none⟩ = some (.slice A7 n7 c7) := ((q3.put 0 (.slice A7 n7 c7)).put 1 (.slice R7 m7 d7)).cell 0
  have r7 : (((w7).setCell ⟨w.heap.size + 1 + 1, 0, none⟩ (.slice A7 n7 c7)).setCell ⟨w.heap.size + 1 + 1, 1, none⟩ (.slice R7 m7 d7)).cell? ⟨w.heap.size + 1 + 1, 1, none⟩ = some (.slice R7 m7 d7) := ((q3.put 0 (.slice A7 n7 c7)).put 1 (.slice R7 m7 d7)).cell 1
  have D := Lib.hid (OwnH.out (w := w) (g := w.heap.size + 1 + 1) (OH) (by omega) (b2) (by omega))
  clear q3 b2 OH
  go_wp2_with fail
  exact bodyPost_ret (v := .tuple #[.agg #[.slice A7 n7 c7, .slice R7 m7 d7], .bool r]) (by simp [results, Tryd.results36, go_sem, *]) rfl ⟨_, _, by rw [HR.out], by rw [HX.out]; exact D.out.1, D.out.2⟩
namespace Hps
end Hps
end Go.Proofs.YthmddmddcdofaaaDoor

namespace Go.Proofs.YthmddmddcdofaaaDoor
open Go.RowKit
set_option maxRecDepth 100000
theorem size_small {h : Hp} (hz : sizeH h ≤ 1048576) : h.cs.length ≤ 1048576 ∧ h.rt.length ≤ 1048576 ∧ ∀ cl ∈ h.cs, cl.r.length ≤ 1048576 := by
  unfold sizeH at hz
  exact ⟨by omega, by omega, fun cl hcl => by have := refN_mem hcl; omega⟩
theorem OwnHx.apart_box {w : World} {base g : Nat} {vc vr : Value} {rvs : List Value} {h : Hp} {cs : Array Value} (o : OwnHx w base vc vr rvs h) (hr : Rw w g 26 cs) : Apart (some g) (vc :: vr :: rvs) := fun v hv => by
  right
  intro e
  simp only [List.mem_cons] at hv
  rcases hv with rfl | rfl | hv
  · exact row_type o.row hr (by decide) e.symm
  · exact row_type o.roots hr (by decide) e.symm
  · obtain ⟨i, hi⟩ := List.mem_iff_getElem?.1 hv
    have hlt := (List.getElem?_eq_some_iff.1 hi).1
    have hc := List.getElem?_eq_getElem (show i < h.cs.length by rw [← o.len]; exact hlt)
    exact row_type (o.refs i _ v hc hi) hr (by decide) e.symm
theorem OwnHx.put2 {w : World} {base g : Nat} {vc vr : Value} {rvs : List Value} {h : Hp} {cs : Array Value} (o : OwnHx w base vc vr rvs h) (hr : Rw w g 26 cs) (x y : Value) : OwnHx ((w.setCell ⟨g, 0, none⟩ x).setCell ⟨g, 1, none⟩ y) base vc vr rvs h :=
  (o.far (only_put (g := g) (World.grownBy.refl _ _) 0 x) (o.apart_box hr)).far (only_put (g := g) (World.grownBy.refl _ _) 1 y) (o.apart_box hr)
theorem tiny_sw (h : Hp) (lim : Int) (o : Cm) : Tiny (Hps.stepSw h lim o).1 := by
  by_cases e : Hps.validH h = true ∧ Hps.okCm o = true ∧ 1 ≤ lim ∧ lim ≤ 40
  · exact tiny_valid (Hps.stepSw_valid e)
  · rw [Hps.stepSw_no e]
    exact tiny_zero
set_option maxHeartbeats 8000000 in
theorem exactStepSweep_walk (A R : Option Addr) (n c m d : Nat) (lim : Int) (h : Hp) (o : Cm) (w : World) (hT : TzT w) (hs : HS w w.heap.size A n R m h) (hn : n ≤ 9223372036854775807) (hm : m ≤ 9223372036854775807) (hb : ∀ cl ∈ h.cs, cl.r.length ≤ 9223372036854775807) :
    Calls Tryd.prog 11 #[heapV A n c R m d, .int .i64 lim, cmV o] w fun e w' => e = .returned (.bool true) ∧ Below w.heap.size w w' := by
  have HTZ := Lib.hid hT
  clear hT
  have b0 : Below w.heap.size w ((w.alloc (.cells #[.slice A n c, .slice R m d] 60)).alloc (.cells #[.int .i64 o.op, .int .i64 o.a, .int .i64 o.b, .int .i64 o.c] 68)) := ((Below.refl _ _).alloc (Nat.le_refl _) _).alloc (by simp) _
  have s0 := hs.up b0
  have q0 := (Rw.new w 60 #[.slice A n c, .slice R m d]).alloc (.cells #[.int .i64 o.op, .int .i64 o.a, .int .i64 o.b, .int .i64 o.c] 68)
  have q1 := Rw.new (w.alloc (.cells #[.slice A n c, .slice R m d] 60)) 68 #[.int .i64 o.op, .int .i64 o.a, .int .i64 o.b, .int .i64 o.c]
  rw [World.size_alloc] at q1
  have hlc := hs.cells.1
  have hlr := hs.roots.1
  go_enter Tryd.func11, Tryd.ntmps11
  go_wp2_with fail
  refine (szHeap_any _ _ _ _ _ _ h _ _ s0 (by omega) (by omega) hn hm hb).mono ?_
  rintro e w1 ⟨rfl, b1⟩
  replace q0 := q0.keep b1 q0.lt
  replace q1 := q1.keep b1 q1.lt
  have bbk := b0.trans (b1.mono b0.size)
  clear b1 s0 b0
  by_cases hz : sizeH h ≤ 1048576
  case neg =>
    have HL : leftOf 1048576 (sizeH h) = -1 := by rw [leftOf, if_neg (by omega)]
    rw [HL]
    go_wp2_with fail
    go_ret
    exact ⟨rfl, bbk⟩
  have HL : leftOf 1048576 (sizeH h) = 1048576 - (sizeH h : Int) := by rw [leftOf, if_pos (by omega)]
  rw [HL]
  obtain ⟨z1, z2, z3⟩ := size_small hz
  rw [hlc] at z1
  rw [hlr] at z2
  have Z3 := Lib.hid (fun cl (hcl : cl ∈ h.cs) => show cl.r.length ≤ 1099511627776 by have := z3 cl hcl; omega)
  obtain ⟨lz, hlz⟩ : ∃ lz : Int, (1048576 : Int) - (sizeH h : Int) = lz := ⟨_, rfl⟩
  have hlz0 : decide (lz < 0) = false := decide_eq_false (by omega)
  rw [hlz]
  obtain ⟨ga, hga⟩ : ∃ ga, w.heap.size = ga := ⟨_, rfl⟩
  rw [hga] at q0 q1 ⊢
  have HGA := Lib.hid hga
  have hgl := q0.lt
  have hgb := q1.lt
  have xa0 : w1.cell? ⟨ga, 0, none⟩ = some (.slice A n c) := q0.cell 0
  have xa1 : w1.cell? ⟨ga, 1, none⟩ = some (.slice R m d) := q0.cell 1
  have xb0 : w1.cell? ⟨ga + 1, 0, none⟩ = some (.int .i64 o.op) := q1.cell 0
  have xb1 : w1.cell? ⟨ga + 1, 1, none⟩ = some (.int .i64 o.a) := q1.cell 1
  have xb2 : w1.cell? ⟨ga + 1, 2, none⟩ = some (.int .i64 o.b) := q1.cell 2
  have xb3 : w1.cell? ⟨ga + 1, 3, none⟩ = some (.int .i64 o.c) := q1.cell 3
  have HZX := Lib.hid (show sizeH h ≤ 1000000000 by omega)
  clear HL hlz hz z3 hb hlc hlr hga
  have T := tiny_sw h lim o
  obtain ⟨hh, hhe⟩ : ∃ hh, (Hps.stepSw h lim o).1 = hh := ⟨_, rfl⟩
  obtain ⟨vb, hvb⟩ : ∃ vb, (Hps.stepSw h lim o).2 = vb := ⟨_, rfl⟩
  rw [hhe] at T
  have HH := Lib.hid hhe
  have HVB := Lib.hid hvb
  obtain ⟨nn, hnn⟩ : ∃ nn, hh.cs.length = nn := ⟨_, rfl⟩
  obtain ⟨mm, hmm⟩ : ∃ mm, hh.rt.length = mm := ⟨_, rfl⟩
  have hn40 : nn ≤ 40 := by have := T.1; omega
  have hm4 : mm ≤ 4 := by have := T.2.1; omega
  have H3 := Lib.hid (fun cl (hcl : cl ∈ hh.cs) => show cl.r.length ≤ 1099511627776 by have := T.2.2 cl hcl; omega)
  have HSZ := Lib.hid T.size
  have E0 := Lib.hid hnn
  have E4 := Lib.hid hmm
  have EA := Lib.hid hs.cells.1
  have EB := Lib.hid hs.roots.1
  have hvv : (vb != vb) = false := by cases vb <;> rfl
  obtain ⟨kv, hkv⟩ : ∃ kv, markKH 1 hh = kv := ⟨_, rfl⟩
  have hk0 : decide (kv < 0) = false := by
    rw [← hkv]
    refine decide_eq_false ?_
    simp only [markKH, mkK]
    omega
  have hkk : (kv != kv) = false := by simp
  obtain ⟨kx, hkx⟩ : ∃ kx, markKH 1 h = kx := ⟨_, rfl⟩
  have hx0 : decide (kx < 0) = false := by
    rw [← hkx]
    refine decide_eq_false ?_
    simp only [markKH, mkK]
    omega
  have HKV := Lib.hid hkv
  have HKX := Lib.hid hkx
  clear T hhe hvb hnn hmm hkv hkx
  go_upto_region 5 with fail
  refine wp_region_inv (by kernel_rfl) (by kernel_rfl) (fun L ac ww => ∃ t8 t9 t23 t24 t25 t26 t27 t28 t29 t30 t31 : Value, ac = { tmps := #[heapV A n c R m d, Value.int IntKind.i64 lim, cmV o, Value.pointer (some { block := ga, off := 0 }), undef, Value.pointer (some { block := ga + 1, off := 0 }), Value.bool false, Value.int IntKind.i64 lz, t8, t9, undef, undef, undef, undef, undef, undef, undef, undef, Value.agg #[Value.slice A n c, Value.slice R m d], Value.int IntKind.i64 1048576, Value.int IntKind.i64 lz, Value.int IntKind.i64 lz, Value.bool false, t23, t24, t25, t26, t27, t28, t29, t30, t31, undef, undef, undef, undef, undef, undef, undef, undef, undef, undef, undef, undef, undef, undef, undef, undef, undef, undef, undef, undef, undef, undef, undef, undef, undef, undef, undef, undef, undef, undef, undef, undef, undef, undef, undef, undef, undef, undef, undef, undef, undef, undef, undef, undef, undef, undef, undef, undef, undef, undef, undef, undef, undef, undef, undef, undef, undef, undef, undef, undef, undef, undef, undef, undef, undef, undef, undef, undef, undef, undef, undef, undef, undef, undef, undef, undef, undef], defers := [] } ∧ (Below w1.heap.size w1 ww) ∧ (L 0 = true → t24 = .agg #[.slice A n c, .slice R m d]) ∧ (L 1 = true → (L 5 = true ∨ ∃ u1 u2 : Nat, t25 = .agg #[.slice (some ⟨u1, 0, none⟩) n n, .slice (some ⟨u2, 0, none⟩) m m] ∧ HS ww ww.heap.size (some ⟨u1, 0, none⟩) n (some ⟨u2, 0, none⟩) m h)) ∧ (L 2 = true → t26 = .int .i64 lim) ∧ (L 3 = true → t27 = .agg #[.int .i64 o.op, .int .i64 o.a, .int .i64 o.b, .int .i64 o.c]) ∧ (L 4 = true → t28 = .agg #[.int .i64 o.op, .int .i64 o.a, .int .i64 o.b, .int .i64 o.c]) ∧ (L 5 = true → ∃ (A' : Option Addr) (c' : Nat) (R' : Option Addr) (d' : Nat) (rvs : List Value), t29 = .tuple #[.agg #[.slice A' nn c', .slice R' mm d'], .bool vb] ∧ OwnHx ww w1.heap.size (.slice A' nn c') (.slice R' mm d') rvs hh ∧ L 5 = true) ∧ (L 6 = true → ∃ (A' : Option Addr) (c' : Nat) (R' : Option Addr) (d' : Nat) (rvs : List Value), t23 = .tuple #[.agg #[.slice A' nn c', .slice R' mm d'], .bool vb] ∧ OwnHx ww w1.heap.size (.slice A' nn c') (.slice R' mm d') rvs hh ∧ L 5 = true) ∧ (L 7 = true → ∃ (A' : Option Addr) (c' : Nat) (R' : Option Addr) (d' : Nat) (rvs : List Value), t30 = .agg #[.slice A' nn c', .slice R' mm d'] ∧ OwnHx ww w1.heap.size (.slice A' nn c') (.slice R' mm d') rvs hh ∧ L 5 = true) ∧ (L 8 = true → t31 = .bool vb) ∧ (L 9 = true → ∃ g : Nat, t8 = .pointer (some ⟨g, 0, none⟩) ∧ w1.heap.size ≤ g ∧ (L 10 = true ∨ Rw ww g 26 #[.slice none 0 0, .slice none 0 0])) ∧ (L 10 = true → ∃ (g : Nat) (A' : Option Addr) (c' : Nat) (R' : Option Addr) (d' : Nat) (rvs : List Value), t8 = .pointer (some ⟨g, 0, none⟩) ∧ w1.heap.size ≤ g ∧ Rw ww g 26 #[.slice A' nn c', .slice R' mm d'] ∧ OwnHx ww w1.heap.size (.slice A' nn c') (.slice R' mm d') rvs hh ∧ L 9 = true ∧ L 5 = true) ∧ (L 11 = true → t9 = .bool vb)) ?h0 ?hstep ?hdone
  case h0 => exact ⟨_, _, _, _, _, _, _, _, _, _, _, rfl, (Below.refl _ _).drew, (fun h => absurd h Bool.false_ne_true), (fun h => absurd h Bool.false_ne_true), (fun h => absurd h Bool.false_ne_true), (fun h => absurd h Bool.false_ne_true), (fun h => absurd h Bool.false_ne_true), (fun h => absurd h Bool.false_ne_true), (fun h => absurd h Bool.false_ne_true), (fun h => absurd h Bool.false_ne_true), (fun h => absurd h Bool.false_ne_true), (fun h => absurd h Bool.false_ne_true), (fun h => absurd h Bool.false_ne_true), (fun h => absurd h Bool.false_ne_true)⟩
  case hstep =>
    rintro L ac ww i o ho hL hd ⟨t8, t9, t23, t24, t25, t26, t27, t28, t29, t30, t31, rfl, I0, f0, f1, f2, f3, f4, f5, f6, f7, f8, f9, f10, f11⟩
    have hi : i < 12 := (Array.getElem?_eq_some_iff.1 ho).1
    obtain rfl | rfl | rfl | rfl | rfl | rfl | rfl | rfl | rfl | rfl | rfl | rfl : i = 0 ∨ i = 1 ∨ i = 2 ∨ i = 3 ∨ i = 4 ∨ i = 5 ∨ i = 6 ∨ i = 7 ∨ i = 8 ∨ i = 9 ∨ i = 10 ∨ i = 11 := by omega
    · obtain rfl := Option.some.inj ho
      have y0 : ww.cell? ⟨ga, 0, none⟩ = some (.slice A n c) := (I0.cell (p := ⟨ga, 0, none⟩) hgl).trans xa0
      have y1 : ww.cell? ⟨ga, 1, none⟩ = some (.slice R m d) := (I0.cell (p := ⟨ga, 1, none⟩) hgl).trans xa1
      refine wpOp_step rfl (fun K' hK => ?_)
      go_simp
      refine hK _ _ ?_
      exact ⟨_, _, _, _, _, _, _, _, _, _, _, rfl, (I0), (fun _ => rfl), (fun h => (f1 (upd_ne h (by decide))).imp (fun e => upd_keep e) id), (kp f2), (kp f3), (kp f4), (fun h => by
        obtain ⟨A', c', R', d', rvs, e, q, l⟩ := f5 (upd_ne h (by decide))
        exact ⟨A', c', R', d', rvs, e, q, upd_keep l⟩), (fun h => by
        obtain ⟨A', c', R', d', rvs, e, q, l⟩ := f6 (upd_ne h (by decide))
        exact ⟨A', c', R', d', rvs, e, q, upd_keep l⟩), (fun h => by
        obtain ⟨A', c', R', d', rvs, e, q, l⟩ := f7 (upd_ne h (by decide))
        exact ⟨A', c', R', d', rvs, e, q, upd_keep l⟩), (kp f8), (fun h => by
        obtain ⟨g, e, hg, r⟩ := f9 (upd_ne h (by decide))
        exact ⟨g, e, hg, r.imp (fun e => upd_keep e) (fun r => r)⟩), (fun h => by
        obtain ⟨g, A', c', R', d', rvs, e, hg, r, q, la, lf⟩ := f10 (upd_ne h (by decide))
        exact ⟨g, A', c', R', d', rvs, e, hg, r, q, upd_keep la, upd_keep lf⟩), (kp f11)⟩
    · obtain rfl := Option.some.inj ho
      have g0 := f0 (hd ⟨0, .data⟩ (by simp) rfl)
      subst g0
      refine wpOp_step rfl (fun K' hK => ?_)
      go_simp
      refine (toHeap_any _ _ _ _ _ _ h ww (hs.up (bbk.trans (I0.mono bbk.size))) (by omega) (by omega) Z3.out).mono ?_
      rintro e w' ⟨u1, u2, rfl, ⟨rv, ow⟩, b5⟩
      have hr9 := ow.reads
      refine hK _ _ ?_
      exact ⟨_, _, _, _, _, _, _, _, _, _, _, rfl, (I0.trans (b5.mono I0.size)), (kp f0), (fun _ => .inr ⟨u1, u2, rfl, hr9⟩), (kp f2), (kp f3), (kp f4), (fun h => by
        obtain ⟨A', c', R', d', rvs, e, q, l⟩ := f5 (upd_ne h (by decide))
        exact ⟨A', c', R', d', rvs, e, q.below b5 (Nat.le_refl _), upd_keep l⟩), (fun h => by
        obtain ⟨A', c', R', d', rvs, e, q, l⟩ := f6 (upd_ne h (by decide))
        exact ⟨A', c', R', d', rvs, e, q.below b5 (Nat.le_refl _), upd_keep l⟩), (fun h => by
        obtain ⟨A', c', R', d', rvs, e, q, l⟩ := f7 (upd_ne h (by decide))
        exact ⟨A', c', R', d', rvs, e, q.below b5 (Nat.le_refl _), upd_keep l⟩), (kp f8), (fun h => by
        obtain ⟨g, e, hg, r⟩ := f9 (upd_ne h (by decide))
        exact ⟨g, e, hg, r.imp (fun e => upd_keep e) (fun r => r.keep b5 r.lt)⟩), (fun h => by
        obtain ⟨g, A', c', R', d', rvs, e, hg, r, q, la, lf⟩ := f10 (upd_ne h (by decide))
        exact ⟨g, A', c', R', d', rvs, e, hg, r.keep b5 r.lt, q.below b5 (Nat.le_refl _), upd_keep la, upd_keep lf⟩), (kp f11)⟩
    · obtain rfl := Option.some.inj ho
      refine wpOp_step rfl (fun K' hK => ?_)
      go_simp
      refine hK _ _ ?_
      exact ⟨_, _, _, _, _, _, _, _, _, _, _, rfl, (I0), (kp f0), (fun h => (f1 (upd_ne h (by decide))).imp (fun e => upd_keep e) id), (fun _ => rfl), (kp f3), (kp f4), (fun h => by
        obtain ⟨A', c', R', d', rvs, e, q, l⟩ := f5 (upd_ne h (by decide))
        exact ⟨A', c', R', d', rvs, e, q, upd_keep l⟩), (fun h => by
        obtain ⟨A', c', R', d', rvs, e, q, l⟩ := f6 (upd_ne h (by decide))
        exact ⟨A', c', R', d', rvs, e, q, upd_keep l⟩), (fun h => by
        obtain ⟨A', c', R', d', rvs, e, q, l⟩ := f7 (upd_ne h (by decide))
        exact ⟨A', c', R', d', rvs, e, q, upd_keep l⟩), (kp f8), (fun h => by
        obtain ⟨g, e, hg, r⟩ := f9 (upd_ne h (by decide))
        exact ⟨g, e, hg, r.imp (fun e => upd_keep e) (fun r => r)⟩), (fun h => by
        obtain ⟨g, A', c', R', d', rvs, e, hg, r, q, la, lf⟩ := f10 (upd_ne h (by decide))
        exact ⟨g, A', c', R', d', rvs, e, hg, r, q, upd_keep la, upd_keep lf⟩), (kp f11)⟩
    · obtain rfl := Option.some.inj ho
      have y0 : ww.cell? ⟨ga + 1, 0, none⟩ = some (.int .i64 o.op) := (I0.cell (p := ⟨ga + 1, 0, none⟩) hgb).trans xb0
      have y1 : ww.cell? ⟨ga + 1, 1, none⟩ = some (.int .i64 o.a) := (I0.cell (p := ⟨ga + 1, 1, none⟩) hgb).trans xb1
      have y2 : ww.cell? ⟨ga + 1, 2, none⟩ = some (.int .i64 o.b) := (I0.cell (p := ⟨ga + 1, 2, none⟩) hgb).trans xb2
      have y3 : ww.cell? ⟨ga + 1, 3, none⟩ = some (.int .i64 o.c) := (I0.cell (p := ⟨ga + 1, 3, none⟩) hgb).trans xb3
      refine wpOp_step rfl (fun K' hK => ?_)
      go_simp
      refine hK _ _ ?_
      exact ⟨_, _, _, _, _, _, _, _, _, _, _, rfl, (I0), (kp f0), (fun h => (f1 (upd_ne h (by decide))).imp (fun e => upd_keep e) id), (kp f2), (fun _ => rfl), (kp f4), (fun h => by
        obtain ⟨A', c', R', d', rvs, e, q, l⟩ := f5 (upd_ne h (by decide))
        exact ⟨A', c', R', d', rvs, e, q, upd_keep l⟩), (fun h => by
        obtain ⟨A', c', R', d', rvs, e, q, l⟩ := f6 (upd_ne h (by decide))
        exact ⟨A', c', R', d', rvs, e, q, upd_keep l⟩), (fun h => by
        obtain ⟨A', c', R', d', rvs, e, q, l⟩ := f7 (upd_ne h (by decide))
        exact ⟨A', c', R', d', rvs, e, q, upd_keep l⟩), (kp f8), (fun h => by
        obtain ⟨g, e, hg, r⟩ := f9 (upd_ne h (by decide))
        exact ⟨g, e, hg, r.imp (fun e => upd_keep e) (fun r => r)⟩), (fun h => by
        obtain ⟨g, A', c', R', d', rvs, e, hg, r, q, la, lf⟩ := f10 (upd_ne h (by decide))
        exact ⟨g, A', c', R', d', rvs, e, hg, r, q, upd_keep la, upd_keep lf⟩), (kp f11)⟩
    · obtain rfl := Option.some.inj ho
      have g3 := f3 (hd ⟨3, .data⟩ (by simp) rfl)
      subst g3
      refine wpOp_step rfl (fun K' hK => ?_)
      go_simp
      refine (toCommand_any o ww).mono ?_
      rintro e w' ⟨rfl, b5⟩
      refine hK _ _ ?_
      exact ⟨_, _, _, _, _, _, _, _, _, _, _, rfl, (I0.trans (b5.mono I0.size)), (kp f0), (fun h => (f1 (upd_ne h (by decide))).imp (fun e => upd_keep e) (fun ⟨u1, u2, e, q⟩ => ⟨u1, u2, e, q.up b5⟩)), (kp f2), (kp f3), (fun _ => rfl), (fun h => by
        obtain ⟨A', c', R', d', rvs, e, q, l⟩ := f5 (upd_ne h (by decide))
        exact ⟨A', c', R', d', rvs, e, q.below b5 (Nat.le_refl _), upd_keep l⟩), (fun h => by
        obtain ⟨A', c', R', d', rvs, e, q, l⟩ := f6 (upd_ne h (by decide))
        exact ⟨A', c', R', d', rvs, e, q.below b5 (Nat.le_refl _), upd_keep l⟩), (fun h => by
        obtain ⟨A', c', R', d', rvs, e, q, l⟩ := f7 (upd_ne h (by decide))
        exact ⟨A', c', R', d', rvs, e, q.below b5 (Nat.le_refl _), upd_keep l⟩), (kp f8), (fun h => by
        obtain ⟨g, e, hg, r⟩ := f9 (upd_ne h (by decide))
        exact ⟨g, e, hg, r.imp (fun e => upd_keep e) (fun r => r.keep b5 r.lt)⟩), (fun h => by
        obtain ⟨g, A', c', R', d', rvs, e, hg, r, q, la, lf⟩ := f10 (upd_ne h (by decide))
        exact ⟨g, A', c', R', d', rvs, e, hg, r.keep b5 r.lt, q.below b5 (Nat.le_refl _), upd_keep la, upd_keep lf⟩), (kp f11)⟩
    · obtain rfl := Option.some.inj ho
      have g1 := f1 (hd ⟨1, .data⟩ (by simp) rfl)
      have g2 := f2 (hd ⟨2, .data⟩ (by simp) rfl)
      have g4 := f4 (hd ⟨4, .data⟩ (by simp) rfl)
      subst g2
      subst g4
      rcases g1 with q | ⟨u1, u2, rfl, hr9⟩
      · rw [hL] at q
        cases q
      refine wpOp_step rfl (fun K' hK => ?_)
      go_simp
      refine (mStepSweep_any _ _ _ _ _ _ lim h o ww (hr9) (by omega) (by omega)).mono ?_
      rw [HH.out, HVB.out]
      rintro e w' ⟨vc, vr, rfl, ⟨rvs, ow⟩, b5⟩
      obtain ⟨A', c', R', d', rfl, rfl, -⟩ := ow.form
      rw [E0.out, E4.out] at ow ⊢
      have ob := ow.base I0.size
      refine hK _ _ ?_
      exact ⟨_, _, _, _, _, _, _, _, _, _, _, rfl, (I0.trans (b5.mono I0.size)), (kp f0), (fun _ => .inl upd_self), (kp f2), (kp f3), (kp f4), (fun _ => ⟨A', c', R', d', rvs, rfl, ob, upd_self⟩), (fun h => by
        obtain ⟨A', c', R', d', rvs, e, q, l⟩ := f6 (upd_ne h (by decide))
        rw [hL] at l
        cases l), (fun h => by
        obtain ⟨A', c', R', d', rvs, e, q, l⟩ := f7 (upd_ne h (by decide))
        rw [hL] at l
        cases l), (kp f8), (fun h => by
        obtain ⟨g, e, hg, r⟩ := f9 (upd_ne h (by decide))
        exact ⟨g, e, hg, r.imp (fun e => upd_keep e) (fun r => r.keep b5 r.lt)⟩), (fun h => by
        obtain ⟨g, A', c', R', d', rvs, e, hg, r, q, la, lf⟩ := f10 (upd_ne h (by decide))
        rw [hL] at lf
        cases lf), (kp f11)⟩
    · obtain rfl := Option.some.inj ho
      have g5 := f5 (hd ⟨5, .data⟩ (by simp) rfl)
      obtain ⟨A', c', R', d', rvs, rfl, ow, lf⟩ := g5
      refine wpOp_step rfl (fun K' hK => ?_)
      go_simp
      refine hK _ _ ?_
      exact ⟨_, _, _, _, _, _, _, _, _, _, _, rfl, (I0), (kp f0), (fun h => (f1 (upd_ne h (by decide))).imp (fun e => upd_keep e) id), (kp f2), (kp f3), (kp f4), (fun _ => ⟨A', c', R', d', rvs, rfl, ow, upd_keep lf⟩), (fun _ => ⟨A', c', R', d', rvs, rfl, ow, upd_keep lf⟩), (fun h => by
        obtain ⟨A', c', R', d', rvs, e, q, l⟩ := f7 (upd_ne h (by decide))
        exact ⟨A', c', R', d', rvs, e, q, upd_keep l⟩), (kp f8), (fun h => by
        obtain ⟨g, e, hg, r⟩ := f9 (upd_ne h (by decide))
        exact ⟨g, e, hg, r.imp (fun e => upd_keep e) (fun r => r)⟩), (fun h => by
        obtain ⟨g, A', c', R', d', rvs, e, hg, r, q, la, lf⟩ := f10 (upd_ne h (by decide))
        exact ⟨g, A', c', R', d', rvs, e, hg, r, q, upd_keep la, upd_keep lf⟩), (kp f11)⟩
    · obtain rfl := Option.some.inj ho
      have g6 := f6 (hd ⟨6, .data⟩ (by simp) rfl)
      obtain ⟨A', c', R', d', rvs, rfl, ow, lf⟩ := g6
      refine wpOp_step rfl (fun K' hK => ?_)
      go_simp
      refine hK _ _ ?_
      exact ⟨_, _, _, _, _, _, _, _, _, _, _, rfl, (I0), (kp f0), (fun h => (f1 (upd_ne h (by decide))).imp (fun e => upd_keep e) id), (kp f2), (kp f3), (kp f4), (fun h => by
        obtain ⟨A', c', R', d', rvs, e, q, l⟩ := f5 (upd_ne h (by decide))
        exact ⟨A', c', R', d', rvs, e, q, upd_keep l⟩), (fun _ => ⟨A', c', R', d', rvs, rfl, ow, upd_keep lf⟩), (fun _ => ⟨A', c', R', d', rvs, rfl, ow, upd_keep lf⟩), (kp f8), (fun h => by
        obtain ⟨g, e, hg, r⟩ := f9 (upd_ne h (by decide))
        exact ⟨g, e, hg, r.imp (fun e => upd_keep e) (fun r => r)⟩), (fun h => by
        obtain ⟨g, A', c', R', d', rvs, e, hg, r, q, la, lf⟩ := f10 (upd_ne h (by decide))
        exact ⟨g, A', c', R', d', rvs, e, hg, r, q, upd_keep la, upd_keep lf⟩), (kp f11)⟩
    · obtain rfl := Option.some.inj ho
      have g6 := f6 (hd ⟨6, .data⟩ (by simp) rfl)
      obtain ⟨A', c', R', d', rvs, rfl, ow, lf⟩ := g6
      refine wpOp_step rfl (fun K' hK => ?_)
      go_simp
      refine hK _ _ ?_
      exact ⟨_, _, _, _, _, _, _, _, _, _, _, rfl, (I0), (kp f0), (fun h => (f1 (upd_ne h (by decide))).imp (fun e => upd_keep e) id), (kp f2), (kp f3), (kp f4), (fun h => by
        obtain ⟨A', c', R', d', rvs, e, q, l⟩ := f5 (upd_ne h (by decide))
        exact ⟨A', c', R', d', rvs, e, q, upd_keep l⟩), (fun _ => ⟨A', c', R', d', rvs, rfl, ow, upd_keep lf⟩), (fun h => by
        obtain ⟨A', c', R', d', rvs, e, q, l⟩ := f7 (upd_ne h (by decide))
        exact ⟨A', c', R', d', rvs, e, q, upd_keep l⟩), (fun _ => rfl), (fun h => by
        obtain ⟨g, e, hg, r⟩ := f9 (upd_ne h (by decide))
        exact ⟨g, e, hg, r.imp (fun e => upd_keep e) (fun r => r)⟩), (fun h => by
        obtain ⟨g, A', c', R', d', rvs, e, hg, r, q, la, lf⟩ := f10 (upd_ne h (by decide))
        exact ⟨g, A', c', R', d', rvs, e, hg, r, q, upd_keep la, upd_keep lf⟩), (kp f11)⟩
    · obtain rfl := Option.some.inj ho
      have bA : Below ww.heap.size ww (ww.alloc (.cells #[.slice none 0 0, .slice none 0 0] 26)) := (Below.refl _ _).alloc (Nat.le_refl _) _
      refine wpOp_step rfl (fun K' hK => ?_)
      go_simp
      refine hK _ _ ?_
      exact ⟨_, _, _, _, _, _, _, _, _, _, _, rfl, (I0.trans (bA.mono I0.size)), (kp f0), (fun h => (f1 (upd_ne h (by decide))).imp (fun e => upd_keep e) (fun ⟨u1, u2, e, q⟩ => ⟨u1, u2, e, q.up bA⟩)), (kp f2), (kp f3), (kp f4), (fun h => by
        obtain ⟨A', c', R', d', rvs, e, q, l⟩ := f5 (upd_ne h (by decide))
        exact ⟨A', c', R', d', rvs, e, q.below bA (Nat.le_refl _), upd_keep l⟩), (fun h => by
        obtain ⟨A', c', R', d', rvs, e, q, l⟩ := f6 (upd_ne h (by decide))
        exact ⟨A', c', R', d', rvs, e, q.below bA (Nat.le_refl _), upd_keep l⟩), (fun h => by
        obtain ⟨A', c', R', d', rvs, e, q, l⟩ := f7 (upd_ne h (by decide))
        exact ⟨A', c', R', d', rvs, e, q.below bA (Nat.le_refl _), upd_keep l⟩), (kp f8), (fun _ => ⟨ww.heap.size, rfl, I0.size, .inr (Rw.new ww _ _)⟩), (fun h => by
        obtain ⟨g, A', c', R', d', rvs, e, hg, r, q, la, lf⟩ := f10 (upd_ne h (by decide))
        rw [hL] at la
        cases la), (kp f11)⟩
    · obtain rfl := Option.some.inj ho
      have g7 := f7 (hd ⟨7, .data⟩ (by simp) rfl)
      have g9 := f9 (hd ⟨9, .data⟩ (by simp) rfl)
      obtain ⟨g, rfl, hg, rz⟩ := g9
      rcases rz with q | rz
      · rw [hL] at q
        cases q
      obtain ⟨A', c', R', d', rvs, rfl, ow, lf⟩ := g7
      have u0 := rz.cell 0
      have u1 := rz.cell 1
      have v0 := rz.frozen 0
      have v1 := rz.frozen 1
      simp at u0 u1
      have la := hd ⟨9, .data⟩ (by simp) rfl
      refine wpOp_step rfl (fun K' hK => ?_)
      go_simp
      refine hK _ _ ?_
      exact ⟨_, _, _, _, _, _, _, _, _, _, _, rfl, ((I0.setCell (p := ⟨g, 0, none⟩) hg _).setCell (p := ⟨g, 1, none⟩) hg _), (kp f0), (fun _ => .inl (upd_keep lf)), (kp f2), (kp f3), (kp f4), (fun h => by
        obtain ⟨A', c', R', d', rvs, e, q, l⟩ := f5 (upd_ne h (by decide))
        exact ⟨A', c', R', d', rvs, e, q.put2 rz _ _, upd_keep l⟩), (fun h => by
        obtain ⟨A', c', R', d', rvs, e, q, l⟩ := f6 (upd_ne h (by decide))
        exact ⟨A', c', R', d', rvs, e, q.put2 rz _ _, upd_keep l⟩), (fun _ => ⟨A', c', R', d', rvs, rfl, ow.put2 rz _ _, upd_keep lf⟩), (kp f8), (fun _ => ⟨g, rfl, hg, .inl upd_self⟩), (fun _ => ⟨g, A', c', R', d', rvs, rfl, hg, (rz.put 0 _).put 1 _, ow.put2 rz _ _, upd_keep la, upd_keep lf⟩), (kp f11)⟩
    · obtain rfl := Option.some.inj ho
      have g8 := f8 (hd ⟨8, .data⟩ (by simp) rfl)
      subst g8
      refine wpOp_step rfl (fun K' hK => ?_)
      go_simp
      refine hK _ _ ?_
      exact ⟨_, _, _, _, _, _, _, _, _, _, _, rfl, (I0), (kp f0), (fun h => (f1 (upd_ne h (by decide))).imp (fun e => upd_keep e) id), (kp f2), (kp f3), (kp f4), (fun h => by
        obtain ⟨A', c', R', d', rvs, e, q, l⟩ := f5 (upd_ne h (by decide))
        exact ⟨A', c', R', d', rvs, e, q, upd_keep l⟩), (fun h => by
        obtain ⟨A', c', R', d', rvs, e, q, l⟩ := f6 (upd_ne h (by decide))
        exact ⟨A', c', R', d', rvs, e, q, upd_keep l⟩), (fun h => by
        obtain ⟨A', c', R', d', rvs, e, q, l⟩ := f7 (upd_ne h (by decide))
        exact ⟨A', c', R', d', rvs, e, q, upd_keep l⟩), (kp f8), (fun h => by
        obtain ⟨g, e, hg, r⟩ := f9 (upd_ne h (by decide))
        exact ⟨g, e, hg, r.imp (fun e => upd_keep e) (fun r => r)⟩), (fun h => by
        obtain ⟨g, A', c', R', d', rvs, e, hg, r, q, la, lf⟩ := f10 (upd_ne h (by decide))
        exact ⟨g, A', c', R', d', rvs, e, hg, r, q, upd_keep la, upd_keep lf⟩), (fun _ => rfl)⟩
  case hdone =>
    rintro L ac ww hall ⟨t8, t9, t23, t24, t25, t26, t27, t28, t29, t30, t31, rfl, I0, f0, f1, f2, f3, f4, f5, f6, f7, f8, f9, f10, f11⟩
    have e0 := f0 (hall 0 (by decide))
    have e1 := f1 (hall 1 (by decide))
    have e2 := f2 (hall 2 (by decide))
    have e3 := f3 (hall 3 (by decide))
    have e4 := f4 (hall 4 (by decide))
    have e5 := f5 (hall 5 (by decide))
    have e6 := f6 (hall 6 (by decide))
    have e7 := f7 (hall 7 (by decide))
    have e8 := f8 (hall 8 (by decide))
    have e9 := f9 (hall 9 (by decide))
    have e10 := f10 (hall 10 (by decide))
    have e11 := f11 (hall 11 (by decide))
    clear f0 f1 f2 f3 f4 f5 f6 f7 f8 f9 f10 f11
    have ht7 := e11
    obtain ⟨g5, A0, c0, R0, d0, rvs0, ep, hg5, x0, o0, -⟩ := e10
    clear e0 e1 e2 e3 e4 e5 e6 e7 e8 e9 e11 hall
    subst ht7 ep
    have hq1 := hgb
    have bb1 := bbk.trans (I0.mono bbk.size)
    replace q0 := q0.keep I0 q0.lt
    replace q1 := q1.keep I0 q1.lt
    clear xa0 xa1 xb0 xb1 xb2 xb3 hgl hgb bbk I0
    generalize ww = w5 at *
    have hp5 := x0.lt
    have hs5 := bb1.size
    have s1 := hs.up bb1
    have SA := Lib.hid (fun u (hu : u ∈ (Value.slice A0 nn c0) :: (Value.slice R0 mm d0) :: rvs0) k (hk : u.ownBlock = some k) => (o0.blocks hu hk).2)
    have xa0 : w5.cell? ⟨ga, 0, none⟩ = some (.slice A n c) := q0.cell 0
    have xa1 : w5.cell? ⟨ga, 1, none⟩ = some (.slice R m d) := q0.cell 1
    go_wp2_with fail
    refine (toHeap_any _ _ _ _ _ _ h _ s1 (by omega) (by omega) Z3.out).mono ?_
    rintro e w6 ⟨g1, g2, rfl, ⟨rvsx, own⟩, b2⟩
    have bA : Below w6.heap.size w6 (w6.alloc (.cells #[.slice (some ⟨g1, 0, none⟩) n n, .slice (some ⟨g2, 0, none⟩) m m] 26)) := (Below.refl _ _).alloc (Nat.le_refl _) _
    have rx := own.reads.up bA
    have ox := own.below bA (Nat.le_refl _)
    have qx := Rw.new w6 26 #[.slice (some ⟨g1, 0, none⟩) n n, .slice (some ⟨g2, 0, none⟩) m m]
    replace q0 := (q0.keep b2 q0.lt).alloc (.cells #[.slice (some ⟨g1, 0, none⟩) n n, .slice (some ⟨g2, 0, none⟩) m m] 26)
    replace q1 := (q1.keep b2 q1.lt).alloc (.cells #[.slice (some ⟨g1, 0, none⟩) n n, .slice (some ⟨g2, 0, none⟩) m m] 26)
    have bbk := (bb1.trans (b2.mono bb1.size)).trans (bA.mono (bb1.trans (b2.mono bb1.size)).size)
    have hwx := b2.size
    replace x0 := (x0.keep b2 x0.lt).alloc (.cells #[.slice (some ⟨g1, 0, none⟩) n n, .slice (some ⟨g2, 0, none⟩) m m] 26)
    replace o0 := (o0.below b2 (Nat.le_refl _)).below bA (Nat.le_refl _)
    have SX := Lib.hid (fun u (hu : u ∈ (Value.slice (some ⟨g1, 0, none⟩) n n) :: (Value.slice (some ⟨g2, 0, none⟩) m m) :: rvsx) k (hk : u.ownBlock = some k) => own.blocks hu hk)
    clear own bA b2 s1 xa0 xa1
    go_upto_region 7 with fail
    generalize w6.alloc (.cells #[.slice (some ⟨g1, 0, none⟩) n n, .slice (some ⟨g2, 0, none⟩) m m] 26) = w7 at rx ox qx q0 q1 bbk x0 o0 ⊢
    obtain ⟨gx, hgxe⟩ : ∃ gx, w6.heap.size = gx := ⟨_, rfl⟩
    rw [hgxe] at qx hwx SX ⊢
    have hgx := qx.lt
    have hgl := q0.lt
    have hgb := q1.lt
    have xc0 : w7.cell? ⟨gx, 0, none⟩ = some (.slice (some ⟨g1, 0, none⟩) n n) := qx.cell 0
    have xc1 : w7.cell? ⟨gx, 1, none⟩ = some (.slice (some ⟨g2, 0, none⟩) m m) := qx.cell 1
    have xb0 : w7.cell? ⟨ga + 1, 0, none⟩ = some (.int .i64 o.op) := q1.cell 0
    have xb1 : w7.cell? ⟨ga + 1, 1, none⟩ = some (.int .i64 o.a) := q1.cell 1
    have xb2 : w7.cell? ⟨ga + 1, 2, none⟩ = some (.int .i64 o.b) := q1.cell 2
    have xb3 : w7.cell? ⟨ga + 1, 3, none⟩ = some (.int .i64 o.c) := q1.cell 3
    clear hgxe bb1
    refine wp_region_inv (by kernel_rfl) (by kernel_rfl) (fun L ac ww => ∃ t11 t12 t34 t35 t36 t37 t38 t39 t40 t41 : Value, ac = { tmps := #[heapV A n c R m d, Value.int IntKind.i64 lim, cmV o, Value.pointer (some { block := ga, off := 0 }), undef, Value.pointer (some { block := ga + 1, off := 0 }), Value.bool false, Value.int IntKind.i64 lz, Value.pointer (some { block := g5, off := 0 }), Value.bool vb, Value.pointer (some { block := gx, off := 0 }), t11, t12, undef, undef, undef, undef, undef, Value.agg #[Value.slice A n c, Value.slice R m d], Value.int IntKind.i64 1048576, Value.int IntKind.i64 lz, Value.int IntKind.i64 lz, Value.bool false, t23, t24, t25, t26, t27, t28, t29, t30, t31, Value.agg #[Value.slice A n c, Value.slice R m d], heapV (some { block := g1, off := 0 }) n n (some { block := g2, off := 0 }) m m, t34, t35, t36, t37, t38, t39, t40, t41, undef, undef, undef, undef, undef, undef, undef, undef, undef, undef, undef, undef, undef, undef, undef, undef, undef, undef, undef, undef, undef, undef, undef, undef, undef, undef, undef, undef, undef, undef, undef, undef, undef, undef, undef, undef, undef, undef, undef, undef, undef, undef, undef, undef, undef, undef, undef, undef, undef, undef, undef, undef, undef, undef, undef, undef, undef, undef, undef, undef, undef, undef, undef, undef, undef, undef, undef], defers := [] } ∧ (Below w7.heap.size w7 ww) ∧ (L 0 = true → t35 = .agg #[.slice (some ⟨g1, 0, none⟩) n n, .slice (some ⟨g2, 0, none⟩) m m]) ∧ (L 1 = true → t36 = .int .i64 lim) ∧ (L 2 = true → t37 = .agg #[.int .i64 o.op, .int .i64 o.a, .int .i64 o.b, .int .i64 o.c]) ∧ (L 3 = true → t38 = .agg #[.int .i64 o.op, .int .i64 o.a, .int .i64 o.b, .int .i64 o.c]) ∧ (L 4 = true → ∃ (A' : Option Addr) (c' : Nat) (R' : Option Addr) (d' : Nat) (rvs : List Value), t39 = .tuple #[.agg #[.slice A' nn c', .slice R' mm d'], .bool vb] ∧ OwnHx ww w7.heap.size (.slice A' nn c') (.slice R' mm d') rvs hh ∧ L 4 = true) ∧ (L 5 = true → ∃ (A' : Option Addr) (c' : Nat) (R' : Option Addr) (d' : Nat) (rvs : List Value), t34 = .tuple #[.agg #[.slice A' nn c', .slice R' mm d'], .bool vb] ∧ OwnHx ww w7.heap.size (.slice A' nn c') (.slice R' mm d') rvs hh ∧ L 4 = true) ∧ (L 6 = true → ∃ (A' : Option Addr) (c' : Nat) (R' : Option Addr) (d' : Nat) (rvs : List Value), t40 = .agg #[.slice A' nn c', .slice R' mm d'] ∧ OwnHx ww w7.heap.size (.slice A' nn c') (.slice R' mm d') rvs hh ∧ L 4 = true) ∧ (L 7 = true → t41 = .bool vb) ∧ (L 8 = true → ∃ g : Nat, t11 = .pointer (some ⟨g, 0, none⟩) ∧ w7.heap.size ≤ g ∧ (L 9 = true ∨ Rw ww g 26 #[.slice none 0 0, .slice none 0 0])) ∧ (L 9 = true → ∃ (g : Nat) (A' : Option Addr) (c' : Nat) (R' : Option Addr) (d' : Nat) (rvs : List Value), t11 = .pointer (some ⟨g, 0, none⟩) ∧ w7.heap.size ≤ g ∧ Rw ww g 26 #[.slice A' nn c', .slice R' mm d'] ∧ OwnHx ww w7.heap.size (.slice A' nn c') (.slice R' mm d') rvs hh ∧ L 8 = true ∧ L 4 = true) ∧ (L 10 = true → t12 = .bool vb)) ?h0 ?hstep ?hdone
    case h0 => exact ⟨_, _, _, _, _, _, _, _, _, _, rfl, (Below.refl _ _).drew, (fun h => absurd h Bool.false_ne_true), (fun h => absurd h Bool.false_ne_true), (fun h => absurd h Bool.false_ne_true), (fun h => absurd h Bool.false_ne_true), (fun h => absurd h Bool.false_ne_true), (fun h => absurd h Bool.false_ne_true), (fun h => absurd h Bool.false_ne_true), (fun h => absurd h Bool.false_ne_true), (fun h => absurd h Bool.false_ne_true), (fun h => absurd h Bool.false_ne_true), (fun h => absurd h Bool.false_ne_true)⟩
    case hstep =>
      rintro L ac ww i o ho hL hd ⟨t11, t12, t34, t35, t36, t37, t38, t39, t40, t41, rfl, I0, f0, f1, f2, f3, f4, f5, f6, f7, f8, f9, f10⟩
      have hi : i < 11 := (Array.getElem?_eq_some_iff.1 ho).1
      obtain rfl | rfl | rfl | rfl | rfl | rfl | rfl | rfl | rfl | rfl | rfl : i = 0 ∨ i = 1 ∨ i = 2 ∨ i = 3 ∨ i = 4 ∨ i = 5 ∨ i = 6 ∨ i = 7 ∨ i = 8 ∨ i = 9 ∨ i = 10 := by omega
      · obtain rfl := Option.some.inj ho
        have y0 : ww.cell? ⟨gx, 0, none⟩ = some (.slice (some ⟨g1, 0, none⟩) n n) := (I0.cell (p := ⟨gx, 0, none⟩) hgx).trans xc0
        have y1 : ww.cell? ⟨gx, 1, none⟩ = some (.slice (some ⟨g2, 0, none⟩) m m) := (I0.cell (p := ⟨gx, 1, none⟩) hgx).trans xc1
        refine wpOp_step rfl (fun K' hK => ?_)
        go_simp
        refine hK _ _ ?_
        exact ⟨_, _, _, _, _, _, _, _, _, _, rfl, (I0), (fun _ => rfl), (kp f1), (kp f2), (kp f3), (fun h => by
          obtain ⟨A', c', R', d', rvs, e, q, l⟩ := f4 (upd_ne h (by decide))
          exact ⟨A', c', R', d', rvs, e, q, upd_keep l⟩), (fun h => by
          obtain ⟨A', c', R', d', rvs, e, q, l⟩ := f5 (upd_ne h (by decide))
          exact ⟨A', c', R', d', rvs, e, q, upd_keep l⟩), (fun h => by
          obtain ⟨A', c', R', d', rvs, e, q, l⟩ := f6 (upd_ne h (by decide))
          exact ⟨A', c', R', d', rvs, e, q, upd_keep l⟩), (kp f7), (fun h => by
          obtain ⟨g, e, hg, r⟩ := f8 (upd_ne h (by decide))
          exact ⟨g, e, hg, r.imp (fun e => upd_keep e) (fun r => r)⟩), (fun h => by
          obtain ⟨g, A', c', R', d', rvs, e, hg, r, q, la, lf⟩ := f9 (upd_ne h (by decide))
          exact ⟨g, A', c', R', d', rvs, e, hg, r, q, upd_keep la, upd_keep lf⟩), (kp f10)⟩
      · obtain rfl := Option.some.inj ho
        refine wpOp_step rfl (fun K' hK => ?_)
        go_simp
        refine hK _ _ ?_
        exact ⟨_, _, _, _, _, _, _, _, _, _, rfl, (I0), (kp f0), (fun _ => rfl), (kp f2), (kp f3), (fun h => by
          obtain ⟨A', c', R', d', rvs, e, q, l⟩ := f4 (upd_ne h (by decide))
          exact ⟨A', c', R', d', rvs, e, q, upd_keep l⟩), (fun h => by
          obtain ⟨A', c', R', d', rvs, e, q, l⟩ := f5 (upd_ne h (by decide))
          exact ⟨A', c', R', d', rvs, e, q, upd_keep l⟩), (fun h => by
          obtain ⟨A', c', R', d', rvs, e, q, l⟩ := f6 (upd_ne h (by decide))
          exact ⟨A', c', R', d', rvs, e, q, upd_keep l⟩), (kp f7), (fun h => by
          obtain ⟨g, e, hg, r⟩ := f8 (upd_ne h (by decide))
          exact ⟨g, e, hg, r.imp (fun e => upd_keep e) (fun r => r)⟩), (fun h => by
          obtain ⟨g, A', c', R', d', rvs, e, hg, r, q, la, lf⟩ := f9 (upd_ne h (by decide))
          exact ⟨g, A', c', R', d', rvs, e, hg, r, q, upd_keep la, upd_keep lf⟩), (kp f10)⟩
      · obtain rfl := Option.some.inj ho
        have y0 : ww.cell? ⟨ga + 1, 0, none⟩ = some (.int .i64 o.op) := (I0.cell (p := ⟨ga + 1, 0, none⟩) hgb).trans xb0
        have y1 : ww.cell? ⟨ga + 1, 1, none⟩ = some (.int .i64 o.a) := (I0.cell (p := ⟨ga + 1, 1, none⟩) hgb).trans xb1
        have y2 : ww.cell? ⟨ga + 1, 2, none⟩ = some (.int .i64 o.b) := (I0.cell (p := ⟨ga + 1, 2, none⟩) hgb).trans xb2
        have y3 : ww.cell? ⟨ga + 1, 3, none⟩ = some (.int .i64 o.c) := (I0.cell (p := ⟨ga + 1, 3, none⟩) hgb).trans xb3
        refine wpOp_step rfl (fun K' hK => ?_)
        go_simp
        refine hK _ _ ?_
        exact ⟨_, _, _, _, _, _, _, _, _, _, rfl, (I0), (kp f0), (kp f1), (fun _ => rfl), (kp f3), (fun h => by
          obtain ⟨A', c', R', d', rvs, e, q, l⟩ := f4 (upd_ne h (by decide))
          exact ⟨A', c', R', d', rvs, e, q, upd_keep l⟩), (fun h => by
          obtain ⟨A', c', R', d', rvs, e, q, l⟩ := f5 (upd_ne h (by decide))
          exact ⟨A', c', R', d', rvs, e, q, upd_keep l⟩), (fun h => by
          obtain ⟨A', c', R', d', rvs, e, q, l⟩ := f6 (upd_ne h (by decide))
          exact ⟨A', c', R', d', rvs, e, q, upd_keep l⟩), (kp f7), (fun h => by
          obtain ⟨g, e, hg, r⟩ := f8 (upd_ne h (by decide))
          exact ⟨g, e, hg, r.imp (fun e => upd_keep e) (fun r => r)⟩), (fun h => by
          obtain ⟨g, A', c', R', d', rvs, e, hg, r, q, la, lf⟩ := f9 (upd_ne h (by decide))
          exact ⟨g, A', c', R', d', rvs, e, hg, r, q, upd_keep la, upd_keep lf⟩), (kp f10)⟩
      · obtain rfl := Option.some.inj ho
        have g2 := f2 (hd ⟨2, .data⟩ (by simp) rfl)
        subst g2
        refine wpOp_step rfl (fun K' hK => ?_)
        go_simp
        refine (toCommand_any o ww).mono ?_
        rintro e w' ⟨rfl, b5⟩
        refine hK _ _ ?_
        exact ⟨_, _, _, _, _, _, _, _, _, _, rfl, (I0.trans (b5.mono I0.size)), (kp f0), (kp f1), (kp f2), (fun _ => rfl), (fun h => by
          obtain ⟨A', c', R', d', rvs, e, q, l⟩ := f4 (upd_ne h (by decide))
          exact ⟨A', c', R', d', rvs, e, q.below b5 (Nat.le_refl _), upd_keep l⟩), (fun h => by
          obtain ⟨A', c', R', d', rvs, e, q, l⟩ := f5 (upd_ne h (by decide))
          exact ⟨A', c', R', d', rvs, e, q.below b5 (Nat.le_refl _), upd_keep l⟩), (fun h => by
          obtain ⟨A', c', R', d', rvs, e, q, l⟩ := f6 (upd_ne h (by decide))
          exact ⟨A', c', R', d', rvs, e, q.below b5 (Nat.le_refl _), upd_keep l⟩), (kp f7), (fun h => by
          obtain ⟨g, e, hg, r⟩ := f8 (upd_ne h (by decide))
          exact ⟨g, e, hg, r.imp (fun e => upd_keep e) (fun r => r.keep b5 r.lt)⟩), (fun h => by
          obtain ⟨g, A', c', R', d', rvs, e, hg, r, q, la, lf⟩ := f9 (upd_ne h (by decide))
          exact ⟨g, A', c', R', d', rvs, e, hg, r.keep b5 r.lt, q.below b5 (Nat.le_refl _), upd_keep la, upd_keep lf⟩), (kp f10)⟩
      · obtain rfl := Option.some.inj ho
        have g0 := f0 (hd ⟨0, .data⟩ (by simp) rfl)
        have g1 := f1 (hd ⟨1, .data⟩ (by simp) rfl)
        have g3 := f3 (hd ⟨3, .data⟩ (by simp) rfl)
        subst g0
        subst g1
        subst g3
        refine wpOp_step rfl (fun K' hK => ?_)
        go_simp
        refine (stepSweep_any _ _ _ _ _ _ lim h o ww (HTZ.out.below (bbk.trans (I0.mono bbk.size))) (rx.up I0) (by omega) (by omega) (Nat.le_refl _) (Nat.le_refl _)).mono ?_
        rw [HH.out, HVB.out]
        rintro e w' ⟨vc, vr, rfl, ⟨rvs, ow⟩, b5⟩
        obtain ⟨A', c', R', d', rfl, rfl, -⟩ := ow.form
        rw [E0.out, E4.out] at ow ⊢
        have ob := ow.base I0.size
        refine hK _ _ ?_
        exact ⟨_, _, _, _, _, _, _, _, _, _, rfl, (I0.trans (b5.mono I0.size)), (kp f0), (kp f1), (kp f2), (kp f3), (fun _ => ⟨A', c', R', d', rvs, rfl, ob, upd_self⟩), (fun h => by
          obtain ⟨A', c', R', d', rvs, e, q, l⟩ := f5 (upd_ne h (by decide))
          rw [hL] at l
          cases l), (fun h => by
          obtain ⟨A', c', R', d', rvs, e, q, l⟩ := f6 (upd_ne h (by decide))
          rw [hL] at l
          cases l), (kp f7), (fun h => by
          obtain ⟨g, e, hg, r⟩ := f8 (upd_ne h (by decide))
          exact ⟨g, e, hg, r.imp (fun e => upd_keep e) (fun r => r.keep b5 r.lt)⟩), (fun h => by
          obtain ⟨g, A', c', R', d', rvs, e, hg, r, q, la, lf⟩ := f9 (upd_ne h (by decide))
          rw [hL] at lf
          cases lf), (kp f10)⟩
      · obtain rfl := Option.some.inj ho
        have g4 := f4 (hd ⟨4, .data⟩ (by simp) rfl)
        obtain ⟨A', c', R', d', rvs, rfl, ow, lf⟩ := g4
        refine wpOp_step rfl (fun K' hK => ?_)
        go_simp
        refine hK _ _ ?_
        exact ⟨_, _, _, _, _, _, _, _, _, _, rfl, (I0), (kp f0), (kp f1), (kp f2), (kp f3), (fun _ => ⟨A', c', R', d', rvs, rfl, ow, upd_keep lf⟩), (fun _ => ⟨A', c', R', d', rvs, rfl, ow, upd_keep lf⟩), (fun h => by
          obtain ⟨A', c', R', d', rvs, e, q, l⟩ := f6 (upd_ne h (by decide))
          exact ⟨A', c', R', d', rvs, e, q, upd_keep l⟩), (kp f7), (fun h => by
          obtain ⟨g, e, hg, r⟩ := f8 (upd_ne h (by decide))
          exact ⟨g, e, hg, r.imp (fun e => upd_keep e) (fun r => r)⟩), (fun h => by
          obtain ⟨g, A', c', R', d', rvs, e, hg, r, q, la, lf⟩ := f9 (upd_ne h (by decide))
          exact ⟨g, A', c', R', d', rvs, e, hg, r, q, upd_keep la, upd_keep lf⟩), (kp f10)⟩
      · obtain rfl := Option.some.inj ho
        have g5 := f5 (hd ⟨5, .data⟩ (by simp) rfl)
        obtain ⟨A', c', R', d', rvs, rfl, ow, lf⟩ := g5
        refine wpOp_step rfl (fun K' hK => ?_)
        go_simp
        refine hK _ _ ?_
        exact ⟨_, _, _, _, _, _, _, _, _, _, rfl, (I0), (kp f0), (kp f1), (kp f2), (kp f3), (fun h => by
          obtain ⟨A', c', R', d', rvs, e, q, l⟩ := f4 (upd_ne h (by decide))
          exact ⟨A', c', R', d', rvs, e, q, upd_keep l⟩), (fun _ => ⟨A', c', R', d', rvs, rfl, ow, upd_keep lf⟩), (fun _ => ⟨A', c', R', d', rvs, rfl, ow, upd_keep lf⟩), (kp f7), (fun h => by
          obtain ⟨g, e, hg, r⟩ := f8 (upd_ne h (by decide))
          exact ⟨g, e, hg, r.imp (fun e => upd_keep e) (fun r => r)⟩), (fun h => by
          obtain ⟨g, A', c', R', d', rvs, e, hg, r, q, la, lf⟩ := f9 (upd_ne h (by decide))
          exact ⟨g, A', c', R', d', rvs, e, hg, r, q, upd_keep la, upd_keep lf⟩), (kp f10)⟩
      · obtain rfl := Option.some.inj ho
        have g5 := f5 (hd ⟨5, .data⟩ (by simp) rfl)
        obtain ⟨A', c', R', d', rvs, rfl, ow, lf⟩ := g5
        refine wpOp_step rfl (fun K' hK => ?_)
        go_simp
        refine hK _ _ ?_
        exact ⟨_, _, _, _, _, _, _, _, _, _, rfl, (I0), (kp f0), (kp f1), (kp f2), (kp f3), (fun h => by
          obtain ⟨A', c', R', d', rvs, e, q, l⟩ := f4 (upd_ne h (by decide))
          exact ⟨A', c', R', d', rvs, e, q, upd_keep l⟩), (fun _ => ⟨A', c', R', d', rvs, rfl, ow, upd_keep lf⟩), (fun h => by
          obtain ⟨A', c', R', d', rvs, e, q, l⟩ := f6 (upd_ne h (by decide))
          exact ⟨A', c', R', d', rvs, e, q, upd_keep l⟩), (fun _ => rfl), (fun h => by
          obtain ⟨g, e, hg, r⟩ := f8 (upd_ne h (by decide))
          exact ⟨g, e, hg, r.imp (fun e => upd_keep e) (fun r => r)⟩), (fun h => by
          obtain ⟨g, A', c', R', d', rvs, e, hg, r, q, la, lf⟩ := f9 (upd_ne h (by decide))
          exact ⟨g, A', c', R', d', rvs, e, hg, r, q, upd_keep la, upd_keep lf⟩), (kp f10)⟩
      · obtain rfl := Option.some.inj ho
        have bA : Below ww.heap.size ww (ww.alloc (.cells #[.slice none 0 0, .slice none 0 0] 26)) := (Below.refl _ _).alloc (Nat.le_refl _) _
        refine wpOp_step rfl (fun K' hK => ?_)
        go_simp
        refine hK _ _ ?_
        exact ⟨_, _, _, _, _, _, _, _, _, _, rfl, (I0.trans (bA.mono I0.size)), (kp f0), (kp f1), (kp f2), (kp f3), (fun h => by
          obtain ⟨A', c', R', d', rvs, e, q, l⟩ := f4 (upd_ne h (by decide))
          exact ⟨A', c', R', d', rvs, e, q.below bA (Nat.le_refl _), upd_keep l⟩), (fun h => by
          obtain ⟨A', c', R', d', rvs, e, q, l⟩ := f5 (upd_ne h (by decide))
          exact ⟨A', c', R', d', rvs, e, q.below bA (Nat.le_refl _), upd_keep l⟩), (fun h => by
          obtain ⟨A', c', R', d', rvs, e, q, l⟩ := f6 (upd_ne h (by decide))
          exact ⟨A', c', R', d', rvs, e, q.below bA (Nat.le_refl _), upd_keep l⟩), (kp f7), (fun _ => ⟨ww.heap.size, rfl, I0.size, .inr (Rw.new ww _ _)⟩), (fun h => by
          obtain ⟨g, A', c', R', d', rvs, e, hg, r, q, la, lf⟩ := f9 (upd_ne h (by decide))
          rw [hL] at la
          cases la), (kp f10)⟩
      · obtain rfl := Option.some.inj ho
        have g6 := f6 (hd ⟨6, .data⟩ (by simp) rfl)
        have g8 := f8 (hd ⟨8, .data⟩ (by simp) rfl)
        obtain ⟨g, rfl, hg, rz⟩ := g8
        rcases rz with q | rz
        · rw [hL] at q
          cases q
        obtain ⟨A', c', R', d', rvs, rfl, ow, lf⟩ := g6
        have u0 := rz.cell 0
        have u1 := rz.cell 1
        have v0 := rz.frozen 0
        have v1 := rz.frozen 1
        simp at u0 u1
        have la := hd ⟨8, .data⟩ (by simp) rfl
        refine wpOp_step rfl (fun K' hK => ?_)
        go_simp
        refine hK _ _ ?_
        exact ⟨_, _, _, _, _, _, _, _, _, _, rfl, ((I0.setCell (p := ⟨g, 0, none⟩) hg _).setCell (p := ⟨g, 1, none⟩) hg _), (kp f0), (kp f1), (kp f2), (kp f3), (fun h => by
          obtain ⟨A', c', R', d', rvs, e, q, l⟩ := f4 (upd_ne h (by decide))
          exact ⟨A', c', R', d', rvs, e, q.put2 rz _ _, upd_keep l⟩), (fun h => by
          obtain ⟨A', c', R', d', rvs, e, q, l⟩ := f5 (upd_ne h (by decide))
          exact ⟨A', c', R', d', rvs, e, q.put2 rz _ _, upd_keep l⟩), (fun _ => ⟨A', c', R', d', rvs, rfl, ow.put2 rz _ _, upd_keep lf⟩), (kp f7), (fun _ => ⟨g, rfl, hg, .inl upd_self⟩), (fun _ => ⟨g, A', c', R', d', rvs, rfl, hg, (rz.put 0 _).put 1 _, ow.put2 rz _ _, upd_keep la, upd_keep lf⟩), (kp f10)⟩
      · obtain rfl := Option.some.inj ho
        have g7 := f7 (hd ⟨7, .data⟩ (by simp) rfl)
        subst g7
        refine wpOp_step rfl (fun K' hK => ?_)
        go_simp
        refine hK _ _ ?_
        exact ⟨_, _, _, _, _, _, _, _, _, _, rfl, (I0), (kp f0), (kp f1), (kp f2), (kp f3), (fun h => by
          obtain ⟨A', c', R', d', rvs, e, q, l⟩ := f4 (upd_ne h (by decide))
          exact ⟨A', c', R', d', rvs, e, q, upd_keep l⟩), (fun h => by
          obtain ⟨A', c', R', d', rvs, e, q, l⟩ := f5 (upd_ne h (by decide))
          exact ⟨A', c', R', d', rvs, e, q, upd_keep l⟩), (fun h => by
          obtain ⟨A', c', R', d', rvs, e, q, l⟩ := f6 (upd_ne h (by decide))
          exact ⟨A', c', R', d', rvs, e, q, upd_keep l⟩), (kp f7), (fun h => by
          obtain ⟨g, e, hg, r⟩ := f8 (upd_ne h (by decide))
          exact ⟨g, e, hg, r.imp (fun e => upd_keep e) (fun r => r)⟩), (fun h => by
          obtain ⟨g, A', c', R', d', rvs, e, hg, r, q, la, lf⟩ := f9 (upd_ne h (by decide))
          exact ⟨g, A', c', R', d', rvs, e, hg, r, q, upd_keep la, upd_keep lf⟩), (fun _ => rfl)⟩
    case hdone =>
      rintro L ac ww hall ⟨t11, t12, t34, t35, t36, t37, t38, t39, t40, t41, rfl, I0, f0, f1, f2, f3, f4, f5, f6, f7, f8, f9, f10⟩
      have e0 := f0 (hall 0 (by decide))
      have e1 := f1 (hall 1 (by decide))
      have e2 := f2 (hall 2 (by decide))
      have e3 := f3 (hall 3 (by decide))
      have e4 := f4 (hall 4 (by decide))
      have e5 := f5 (hall 5 (by decide))
      have e6 := f6 (hall 6 (by decide))
      have e7 := f7 (hall 7 (by decide))
      have e8 := f8 (hall 8 (by decide))
      have e9 := f9 (hall 9 (by decide))
      have e10 := f10 (hall 10 (by decide))
      clear f0 f1 f2 f3 f4 f5 f6 f7 f8 f9 f10
      have ht10 := e10
      obtain ⟨g9, A1, c1, R1, d1, rvs1, ep, hg9, x1, o1, -⟩ := e9
      clear e0 e1 e2 e3 e4 e5 e6 e7 e8 e10 hall
      subst ht10 ep
      have SB := Lib.hid (fun u (hu : u ∈ (Value.slice A1 nn c1) :: (Value.slice R1 mm d1) :: rvs1) k (hk : u.ownBlock = some k) => o1.blocks hu hk)
      replace bbk := bbk.trans (I0.mono bbk.size)
      replace q0 := q0.keep I0 q0.lt
      replace q1 := q1.keep I0 q1.lt
      replace qx := qx.keep I0 qx.lt
      replace x0 := x0.keep I0 x0.lt
      replace o0 := o0.below I0 (Nat.le_refl _)
      replace ox := ox.below I0 (Nat.le_refl _)
      have hw7 := hgx
      have S01 := Lib.hid (fun v (hv : v ∈ (Value.slice A0 nn c0) :: (Value.slice R0 mm d0) :: rvs0) u (hu : u ∈ (Value.slice A1 nn c1) :: (Value.slice R1 mm d1) :: rvs1) => show v.ownBlock = none ∨ v.ownBlock ≠ u.ownBlock by
        cases e : v.ownBlock with
        | none => exact .inl rfl
        | some k =>
          right
          intro e'
          have h1 := SA.out v hv k e
          have h2 := (SB.out u hu k e'.symm).1
          omega)
      have S0X := Lib.hid (fun v (hv : v ∈ (Value.slice A0 nn c0) :: (Value.slice R0 mm d0) :: rvs0) u (hu : u ∈ (Value.slice (some ⟨g1, 0, none⟩) n n) :: (Value.slice (some ⟨g2, 0, none⟩) m m) :: rvsx) => show v.ownBlock = none ∨ v.ownBlock ≠ u.ownBlock by
        cases e : v.ownBlock with
        | none => exact .inl rfl
        | some k =>
          right
          intro e'
          have h1 := SA.out v hv k e
          have h2 := (SX.out u hu k e'.symm).1
          omega)
      have S1X := Lib.hid (fun v (hv : v ∈ (Value.slice A1 nn c1) :: (Value.slice R1 mm d1) :: rvs1) u (hu : u ∈ (Value.slice (some ⟨g1, 0, none⟩) n n) :: (Value.slice (some ⟨g2, 0, none⟩) m m) :: rvsx) => show v.ownBlock = none ∨ v.ownBlock ≠ u.ownBlock by
        cases e : v.ownBlock with
        | none => exact .inl rfl
        | some k =>
          right
          intro e'
          have h1 := (SB.out v hv k e).1
          have h2 := (SX.out u hu k e'.symm).2
          omega)
      clear xb0 xb1 xb2 xb3 xc0 xc1 hgl hgb hgx I0
      generalize ww = w8 at *
      have y0 : w8.cell? ⟨g5, 0, none⟩ = some (.slice A0 nn c0) := x0.cell 0
      have y1 : w8.cell? ⟨g5, 1, none⟩ = some (.slice R0 mm d0) := x0.cell 1
      have y2 : w8.cell? ⟨g9, 0, none⟩ = some (.slice A1 nn c1) := x1.cell 0
      have y3 : w8.cell? ⟨g9, 1, none⟩ = some (.slice R1 mm d1) := x1.cell 1
      go_wp2_with fail
      refine (eqHeap_any _ _ _ _ _ _ _ _ _ _ _ _ hh hh _ o1.reads o0.reads (by omega) (by omega) (by omega) (by omega) H3.out H3.out).mono ?_
      rw [decide_eq_true rfl]
      rintro e w9 ⟨rfl, b9⟩
      replace o0 := o0.below b9 (Nat.le_refl _)
      replace o1 := o1.below b9 (Nat.le_refl _)
      replace ox := ox.below b9 (Nat.le_refl _)
      replace x0 := x0.keep b9 x0.lt
      replace x1 := x1.keep b9 x1.lt
      replace qx := qx.keep b9 qx.lt
      replace q0 := q0.keep b9 q0.lt
      replace q1 := q1.keep b9 q1.lt
      replace bbk := bbk.trans (b9.mono bbk.size)
      clear b9 y0 y1 y2 y3 rx
      have rx := ox.reads
      have hgx := qx.lt
      have hgl := q0.lt
      have xa0 : w9.cell? ⟨ga, 0, none⟩ = some (.slice A n c) := q0.cell 0
      have xa1 : w9.cell? ⟨ga, 1, none⟩ = some (.slice R m d) := q0.cell 1
      have xc0 : w9.cell? ⟨gx, 0, none⟩ = some (.slice (some ⟨g1, 0, none⟩) n n) := qx.cell 0
      have xc1 : w9.cell? ⟨gx, 1, none⟩ = some (.slice (some ⟨g2, 0, none⟩) m m) := qx.cell 1
      go_upto_region 10 with fail
      refine wp_region_inv (by kernel_rfl) (by kernel_rfl) (fun L ac ww => ∃ t51 t52 t53 t54 t55 : Value, ac = { tmps := #[heapV A n c R m d, Value.int IntKind.i64 lim, cmV o, Value.pointer (some { block := ga, off := 0 }), undef, Value.pointer (some { block := ga + 1, off := 0 }), Value.bool false, Value.int IntKind.i64 lz, Value.pointer (some { block := g5, off := 0 }), Value.bool vb, Value.pointer (some { block := gx, off := 0 }), Value.pointer (some { block := g9, off := 0 }), Value.bool vb, undef, undef, undef, undef, undef, Value.agg #[Value.slice A n c, Value.slice R m d], Value.int IntKind.i64 1048576, Value.int IntKind.i64 lz, Value.int IntKind.i64 lz, Value.bool false, t23, t24, t25, t26, t27, t28, t29, t30, t31, Value.agg #[Value.slice A n c, Value.slice R m d], heapV (some { block := g1, off := 0 }) n n (some { block := g2, off := 0 }) m m, t34, t35, t36, t37, t38, t39, t40, t41, Value.agg #[Value.slice A1 nn c1, Value.slice R1 mm d1], Value.agg #[Value.slice A0 nn c0, Value.slice R0 mm d0], Value.bool true, Value.bool false, Value.bool false, Value.bool vb, Value.bool vb, Value.bool false, Value.bool false, t51, t52, t53, t54, t55, undef, undef, undef, undef, undef, undef, undef, undef, undef, undef, undef, undef, undef, undef, undef, undef, undef, undef, undef, undef, undef, undef, undef, undef, undef, undef, undef, undef, undef, undef, undef, undef, undef, undef, undef, undef, undef, undef, undef, undef, undef, undef, undef, undef, undef, undef, undef, undef, undef, undef, undef, undef, undef], defers := [] } ∧ (Below w9.heap.size w9 ww) ∧ (L 0 = true → t51 = .agg #[.slice (some ⟨g1, 0, none⟩) n n, .slice (some ⟨g2, 0, none⟩) m m]) ∧ (L 1 = true → t52 = .agg #[.slice A n c, .slice R m d]) ∧ (L 2 = true → ∃ u1 u2 : Nat, t53 = .agg #[.slice (some ⟨u1, 0, none⟩) n n, .slice (some ⟨u2, 0, none⟩) m m] ∧ HS ww ww.heap.size (some ⟨u1, 0, none⟩) n (some ⟨u2, 0, none⟩) m h) ∧ (L 3 = true → t54 = .bool true) ∧ (L 4 = true → t55 = .bool false)) ?h0 ?hstep ?hdone
      case h0 => exact ⟨_, _, _, _, _, rfl, (Below.refl _ _).drew, (fun h => absurd h Bool.false_ne_true), (fun h => absurd h Bool.false_ne_true), (fun h => absurd h Bool.false_ne_true), (fun h => absurd h Bool.false_ne_true), (fun h => absurd h Bool.false_ne_true)⟩
      case hstep =>
        rintro L ac ww i o ho hL hd ⟨t51, t52, t53, t54, t55, rfl, I0, f0, f1, f2, f3, f4⟩
        have hi : i < 5 := (Array.getElem?_eq_some_iff.1 ho).1
        obtain rfl | rfl | rfl | rfl | rfl : i = 0 ∨ i = 1 ∨ i = 2 ∨ i = 3 ∨ i = 4 := by omega
        · obtain rfl := Option.some.inj ho
          have y0 : ww.cell? ⟨gx, 0, none⟩ = some (.slice (some ⟨g1, 0, none⟩) n n) := (I0.cell (p := ⟨gx, 0, none⟩) hgx).trans xc0
          have y1 : ww.cell? ⟨gx, 1, none⟩ = some (.slice (some ⟨g2, 0, none⟩) m m) := (I0.cell (p := ⟨gx, 1, none⟩) hgx).trans xc1
          refine wpOp_step rfl (fun K' hK => ?_)
          go_simp
          refine hK _ _ ?_
          exact ⟨_, _, _, _, _, rfl, (I0), (fun _ => rfl), (kp f1), (kp f2), (kp f3), (kp f4)⟩
        · obtain rfl := Option.some.inj ho
          have y0 : ww.cell? ⟨ga, 0, none⟩ = some (.slice A n c) := (I0.cell (p := ⟨ga, 0, none⟩) hgl).trans xa0
          have y1 : ww.cell? ⟨ga, 1, none⟩ = some (.slice R m d) := (I0.cell (p := ⟨ga, 1, none⟩) hgl).trans xa1
          refine wpOp_step rfl (fun K' hK => ?_)
          go_simp
          refine hK _ _ ?_
          exact ⟨_, _, _, _, _, rfl, (I0), (kp f0), (fun _ => rfl), (kp f2), (kp f3), (kp f4)⟩
        · obtain rfl := Option.some.inj ho
          have g1 := f1 (hd ⟨1, .data⟩ (by simp) rfl)
          subst g1
          refine wpOp_step rfl (fun K' hK => ?_)
          go_simp
          refine (toHeap_any _ _ _ _ _ _ h ww (hs.up (bbk.trans (I0.mono bbk.size))) (by omega) (by omega) Z3.out).mono ?_
          rintro e w' ⟨u1, u2, rfl, ⟨rv, ow⟩, b5⟩
          have hr9 := ow.reads
          refine hK _ _ ?_
          exact ⟨_, _, _, _, _, rfl, (I0.trans (b5.mono I0.size)), (kp f0), (kp f1), (fun _ => ⟨u1, u2, rfl, hr9⟩), (kp f3), (kp f4)⟩
        · obtain rfl := Option.some.inj ho
          have g0 := f0 (hd ⟨0, .data⟩ (by simp) rfl)
          have g2 := f2 (hd ⟨2, .data⟩ (by simp) rfl)
          subst g0
          obtain ⟨u1, u2, rfl, hr9⟩ := g2
          refine wpOp_step rfl (fun K' hK => ?_)
          go_simp
          refine (eqHeap_any _ _ _ _ _ _ _ _ _ _ _ _ h h ww (rx.up I0) hr9 (by omega) (by omega) (by omega) (by omega) Z3.out Z3.out).mono ?_
          rw [decide_eq_true rfl]
          rintro e w' ⟨rfl, b5⟩
          refine hK _ _ ?_
          exact ⟨_, _, _, _, _, rfl, (I0.trans (b5.mono I0.size)), (kp f0), (kp f1), (fun _ => ⟨u1, u2, rfl, hr9.up b5⟩), (fun _ => rfl), (kp f4)⟩
        · obtain rfl := Option.some.inj ho
          have g3 := f3 (hd ⟨3, .data⟩ (by simp) rfl)
          subst g3
          refine wpOp_step rfl (fun K' hK => ?_)
          go_simp
          refine hK _ _ ?_
          exact ⟨_, _, _, _, _, rfl, (I0), (kp f0), (kp f1), (kp f2), (kp f3), (fun _ => rfl)⟩
      case hdone =>
        rintro L ac ww hall ⟨t51, t52, t53, t54, t55, rfl, I0, f0, f1, f2, f3, f4⟩
        have e0 := f0 (hall 0 (by decide))
        have e1 := f1 (hall 1 (by decide))
        have e2 := f2 (hall 2 (by decide))
        have e3 := f3 (hall 3 (by decide))
        have e4 := f4 (hall 4 (by decide))
        clear f0 f1 f2 f3 f4
        subst e3 e4
        clear e0 e1 e2 hall
        replace o0 := o0.below I0 (Nat.le_refl _)
        replace o1 := o1.below I0 (Nat.le_refl _)
        replace ox := ox.below I0 (Nat.le_refl _)
        replace x0 := x0.keep I0 x0.lt
        replace x1 := x1.keep I0 x1.lt
        replace qx := qx.keep I0 qx.lt
        replace q0 := q0.keep I0 q0.lt
        replace q1 := q1.keep I0 q1.lt
        replace bbk := bbk.trans (I0.mono bbk.size)
        clear xa0 xa1 xc0 xc1 I0 rx hgx hgl
        generalize ww = w10 at *
        have xc0 : w10.cell? ⟨gx, 0, none⟩ = some (.slice (some ⟨g1, 0, none⟩) n n) := qx.cell 0
        have xc1 : w10.cell? ⟨gx, 1, none⟩ = some (.slice (some ⟨g2, 0, none⟩) m m) := qx.cell 1
        have APX := ox.apart_box qx
        go_wp2_with fail
        refine (markHeap_any _ _ rvsx h _ _ _ ox (by omega) (by omega) HZX.out).mono ?_
        rw [HKX.out]
        rintro e w11 ⟨rfl, -, tx⟩
        replace o0 := o0.touched' tx S0X.out
        replace o1 := o1.touched' tx S1X.out
        replace x0 := x0.touched tx (fun u hu e => by have := (SX.out u hu _ e).1; omega)
        replace x1 := x1.touched tx (fun u hu e => by have := (SX.out u hu _ e).2; omega)
        replace q0 := q0.touched tx (fun u hu e => by have := (SX.out u hu _ e).1; omega)
        replace q1 := q1.touched tx (fun u hu e => by have := (SX.out u hu _ e).1; omega)
        replace bbk : Below w.heap.size w w11 := tx.below bbk bbk.size (fun u hu k hk => by have := (SX.out u hu k hk).1; omega)
        clear ox qx tx xc0 xc1 APX
        have y0 : w11.cell? ⟨g5, 0, none⟩ = some (.slice A0 nn c0) := x0.cell 0
        have y1 : w11.cell? ⟨g5, 1, none⟩ = some (.slice R0 mm d0) := x0.cell 1
        have y2 : w11.cell? ⟨g9, 0, none⟩ = some (.slice A1 nn c1) := x1.cell 0
        have y3 : w11.cell? ⟨g9, 1, none⟩ = some (.slice R1 mm d1) := x1.cell 1
        go_wp2_with fail
        refine (eqHeap_any _ _ _ _ _ _ _ _ _ _ _ _ hh hh _ o1.reads o0.reads (by omega) (by omega) (by omega) (by omega) H3.out H3.out).mono ?_
        rw [decide_eq_true rfl]
        rintro e w12 ⟨rfl, b12⟩
        replace o0 := o0.below b12 (Nat.le_refl _)
        replace o1 := o1.below b12 (Nat.le_refl _)
        replace x0 := x0.keep b12 x0.lt
        replace x1 := x1.keep b12 x1.lt
        replace q0 := q0.keep b12 q0.lt
        replace q1 := q1.keep b12 q1.lt
        replace bbk := bbk.trans (b12.mono bbk.size)
        clear b12 y0 y1 y2 y3
        have y2 : w12.cell? ⟨g9, 0, none⟩ = some (.slice A1 nn c1) := x1.cell 0
        have y3 : w12.cell? ⟨g9, 1, none⟩ = some (.slice R1 mm d1) := x1.cell 1
        have AP1 := o1.apart_box x1
        go_wp2_with fail
        refine (markHeap_any _ _ rvs1 hh _ _ _ o1 (by omega) (by omega) HSZ.out).mono ?_
        rw [HKV.out]
        rintro e w13 ⟨rfl, m6, t6⟩
        replace o0 := o0.touched' t6 S01.out
        replace x0 := x0.touched t6 (fun u hu e => by have := (SB.out u hu _ e).1; omega)
        replace x1 := x1.touched t6 (fun u hu e => by rcases AP1 u hu with h1 | h1; rw [h1] at e; cases e; exact h1 e)
        replace q0 := q0.touched t6 (fun u hu e => by have := (SB.out u hu _ e).1; omega)
        replace q1 := q1.touched t6 (fun u hu e => by have := (SB.out u hu _ e).1; omega)
        replace bbk : Below w.heap.size w w13 := t6.below bbk bbk.size (fun u hu k hk => by have := (SB.out u hu k hk).1; omega)
        have r6 := m6.reads
        clear o1 t6 m6 y2 y3 AP1
        have y2 : w13.cell? ⟨g9, 0, none⟩ = some (.slice A1 nn c1) := x1.cell 0
        have y3 : w13.cell? ⟨g9, 1, none⟩ = some (.slice R1 mm d1) := x1.cell 1
        go_wp2_with fail
        refine (heldHeap_any _ _ _ _ _ _ hh _ _ r6 E0.out E4.out (by omega) (by omega) HSZ.out).mono ?_
        rw [HKV.out]
        rintro e w14 ⟨rfl, b14⟩
        replace o0 := o0.below b14 (Nat.le_refl _)
        replace x0 := x0.keep b14 x0.lt
        replace x1 := x1.keep b14 x1.lt
        replace q0 := q0.keep b14 q0.lt
        replace q1 := q1.keep b14 q1.lt
        replace r6 := r6.up b14
        replace bbk := bbk.trans (b14.mono bbk.size)
        clear b14 y2 y3
        have hgl := q0.lt
        have hgb := q1.lt
        have xa0 : w14.cell? ⟨ga, 0, none⟩ = some (.slice A n c) := q0.cell 0
        have xa1 : w14.cell? ⟨ga, 1, none⟩ = some (.slice R m d) := q0.cell 1
        have xb0 : w14.cell? ⟨ga + 1, 0, none⟩ = some (.int .i64 o.op) := q1.cell 0
        have xb1 : w14.cell? ⟨ga + 1, 1, none⟩ = some (.int .i64 o.a) := q1.cell 1
        have xb2 : w14.cell? ⟨ga + 1, 2, none⟩ = some (.int .i64 o.b) := q1.cell 2
        have xb3 : w14.cell? ⟨ga + 1, 3, none⟩ = some (.int .i64 o.c) := q1.cell 3
        clear hg5 hg9 S0X S1X SX
        go_upto_region 24 with fail
        refine wp_region_inv (by kernel_rfl) (by kernel_rfl) (fun L ac ww => ∃ t16 t17 t83 t84 t85 t86 t87 t88 t89 t90 t91 : Value, ac = { tmps := #[heapV A n c R m d, Value.int IntKind.i64 lim, cmV o, Value.pointer (some { block := ga, off := 0 }), undef, Value.pointer (some { block := ga + 1, off := 0 }), Value.bool false, Value.int IntKind.i64 lz, Value.pointer (some { block := g5, off := 0 }), Value.bool vb, Value.pointer (some { block := gx, off := 0 }), Value.pointer (some { block := g9, off := 0 }), Value.bool vb, Value.int IntKind.i64 kx, Value.int IntKind.i64 kv, Value.int IntKind.i64 kv, t16, t17, Value.agg #[Value.slice A n c, Value.slice R m d], Value.int IntKind.i64 1048576, Value.int IntKind.i64 lz, Value.int IntKind.i64 lz, Value.bool false, t23, t24, t25, t26, t27, t28, t29, t30, t31, Value.agg #[Value.slice A n c, Value.slice R m d], heapV (some { block := g1, off := 0 }) n n (some { block := g2, off := 0 }) m m, t34, t35, t36, t37, t38, t39, t40, t41, Value.agg #[Value.slice A1 nn c1, Value.slice R1 mm d1], Value.agg #[Value.slice A0 nn c0, Value.slice R0 mm d0], Value.bool true, Value.bool false, Value.bool false, Value.bool vb, Value.bool vb, Value.bool false, Value.bool false, t51, t52, t53, Value.bool true, Value.bool false, Value.agg #[Value.slice (some { block := g1, off := 0 }) n n, Value.slice (some { block := g2, off := 0 }) m m], Value.int IntKind.i64 1, Value.int IntKind.i64 kx, Value.int IntKind.i64 kx, Value.bool false, Value.bool false, Value.agg #[Value.slice A1 nn c1, Value.slice R1 mm d1], Value.agg #[Value.slice A0 nn c0, Value.slice R0 mm d0], Value.bool true, Value.bool false, Value.bool false, Value.bool false, Value.bool vb, Value.bool vb, Value.bool false, Value.bool false, Value.agg #[Value.slice A1 nn c1, Value.slice R1 mm d1], Value.int IntKind.i64 1, Value.int IntKind.i64 kv, Value.agg #[Value.slice A1 nn c1, Value.slice R1 mm d1], Value.int IntKind.i64 1, Value.int IntKind.i64 kv, Value.int IntKind.i64 kv, Value.bool false, Value.int IntKind.i64 kv, Value.int IntKind.i64 kv, Value.bool false, t83, t84, t85, t86, t87, t88, t89, t90, t91, undef, undef, undef, undef, undef, undef, undef, undef, undef, undef, undef, undef, undef, undef, undef, undef, undef], defers := [] } ∧ (Below w14.heap.size w14 ww) ∧ (L 0 = true → t84 = .agg #[.slice A n c, .slice R m d]) ∧ (L 1 = true → (L 5 = true ∨ ∃ u1 u2 : Nat, t85 = .agg #[.slice (some ⟨u1, 0, none⟩) n n, .slice (some ⟨u2, 0, none⟩) m m] ∧ HS ww ww.heap.size (some ⟨u1, 0, none⟩) n (some ⟨u2, 0, none⟩) m h)) ∧ (L 2 = true → t86 = .int .i64 lim) ∧ (L 3 = true → t87 = .agg #[.int .i64 o.op, .int .i64 o.a, .int .i64 o.b, .int .i64 o.c]) ∧ (L 4 = true → t88 = .agg #[.int .i64 o.op, .int .i64 o.a, .int .i64 o.b, .int .i64 o.c]) ∧ (L 5 = true → ∃ (A' : Option Addr) (c' : Nat) (R' : Option Addr) (d' : Nat) (rvs : List Value), t89 = .tuple #[.agg #[.slice A' nn c', .slice R' mm d'], .bool vb] ∧ OwnHx ww w14.heap.size (.slice A' nn c') (.slice R' mm d') rvs hh ∧ L 5 = true) ∧ (L 6 = true → ∃ (A' : Option Addr) (c' : Nat) (R' : Option Addr) (d' : Nat) (rvs : List Value), t83 = .tuple #[.agg #[.slice A' nn c', .slice R' mm d'], .bool vb] ∧ OwnHx ww w14.heap.size (.slice A' nn c') (.slice R' mm d') rvs hh ∧ L 5 = true) ∧ (L 7 = true → ∃ (A' : Option Addr) (c' : Nat) (R' : Option Addr) (d' : Nat) (rvs : List Value), t90 = .agg #[.slice A' nn c', .slice R' mm d'] ∧ OwnHx ww w14.heap.size (.slice A' nn c') (.slice R' mm d') rvs hh ∧ L 5 = true) ∧ (L 8 = true → t91 = .bool vb) ∧ (L 9 = true → ∃ g : Nat, t16 = .pointer (some ⟨g, 0, none⟩) ∧ w14.heap.size ≤ g ∧ (L 10 = true ∨ Rw ww g 26 #[.slice none 0 0, .slice none 0 0])) ∧ (L 10 = true → ∃ (g : Nat) (A' : Option Addr) (c' : Nat) (R' : Option Addr) (d' : Nat) (rvs : List Value), t16 = .pointer (some ⟨g, 0, none⟩) ∧ w14.heap.size ≤ g ∧ Rw ww g 26 #[.slice A' nn c', .slice R' mm d'] ∧ OwnHx ww w14.heap.size (.slice A' nn c') (.slice R' mm d') rvs hh ∧ L 9 = true ∧ L 5 = true) ∧ (L 11 = true → t17 = .bool vb)) ?h0 ?hstep ?hdone
        case h0 => exact ⟨_, _, _, _, _, _, _, _, _, _, _, rfl, (Below.refl _ _).drew, (fun h => absurd h Bool.false_ne_true), (fun h => absurd h Bool.false_ne_true), (fun h => absurd h Bool.false_ne_true), (fun h => absurd h Bool.false_ne_true), (fun h => absurd h Bool.false_ne_true), (fun h => absurd h Bool.false_ne_true), (fun h => absurd h Bool.false_ne_true), (fun h => absurd h Bool.false_ne_true), (fun h => absurd h Bool.false_ne_true), (fun h => absurd h Bool.false_ne_true), (fun h => absurd h Bool.false_ne_true), (fun h => absurd h Bool.false_ne_true)⟩
        case hstep =>
          rintro L ac ww i o ho hL hd ⟨t16, t17, t83, t84, t85, t86, t87, t88, t89, t90, t91, rfl, I0, f0, f1, f2, f3, f4, f5, f6, f7, f8, f9, f10, f11⟩
          have hi : i < 12 := (Array.getElem?_eq_some_iff.1 ho).1
          obtain rfl | rfl | rfl | rfl | rfl | rfl | rfl | rfl | rfl | rfl | rfl | rfl : i = 0 ∨ i = 1 ∨ i = 2 ∨ i = 3 ∨ i = 4 ∨ i = 5 ∨ i = 6 ∨ i = 7 ∨ i = 8 ∨ i = 9 ∨ i = 10 ∨ i = 11 := by omega
          · obtain rfl := Option.some.inj ho
            have y0 : ww.cell? ⟨ga, 0, none⟩ = some (.slice A n c) := (I0.cell (p := ⟨ga, 0, none⟩) hgl).trans xa0
            have y1 : ww.cell? ⟨ga, 1, none⟩ = some (.slice R m d) := (I0.cell (p := ⟨ga, 1, none⟩) hgl).trans xa1
            refine wpOp_step rfl (fun K' hK => ?_)
            go_simp
            refine hK _ _ ?_
            exact ⟨_, _, _, _, _, _, _, _, _, _, _, rfl, (I0), (fun _ => rfl), (fun h => (f1 (upd_ne h (by decide))).imp (fun e => upd_keep e) id), (kp f2), (kp f3), (kp f4), (fun h => by
              obtain ⟨A', c', R', d', rvs, e, q, l⟩ := f5 (upd_ne h (by decide))
              exact ⟨A', c', R', d', rvs, e, q, upd_keep l⟩), (fun h => by
              obtain ⟨A', c', R', d', rvs, e, q, l⟩ := f6 (upd_ne h (by decide))
              exact ⟨A', c', R', d', rvs, e, q, upd_keep l⟩), (fun h => by
              obtain ⟨A', c', R', d', rvs, e, q, l⟩ := f7 (upd_ne h (by decide))
              exact ⟨A', c', R', d', rvs, e, q, upd_keep l⟩), (kp f8), (fun h => by
              obtain ⟨g, e, hg, r⟩ := f9 (upd_ne h (by decide))
              exact ⟨g, e, hg, r.imp (fun e => upd_keep e) (fun r => r)⟩), (fun h => by
              obtain ⟨g, A', c', R', d', rvs, e, hg, r, q, la, lf⟩ := f10 (upd_ne h (by decide))
              exact ⟨g, A', c', R', d', rvs, e, hg, r, q, upd_keep la, upd_keep lf⟩), (kp f11)⟩
          · obtain rfl := Option.some.inj ho
            have g0 := f0 (hd ⟨0, .data⟩ (by simp) rfl)
            subst g0
            refine wpOp_step rfl (fun K' hK => ?_)
            go_simp
            refine (toHeap_any _ _ _ _ _ _ h ww (hs.up (bbk.trans (I0.mono bbk.size))) (by omega) (by omega) Z3.out).mono ?_
            rintro e w' ⟨u1, u2, rfl, ⟨rv, ow⟩, b5⟩
            have hr9 := ow.reads
            refine hK _ _ ?_
            exact ⟨_, _, _, _, _, _, _, _, _, _, _, rfl, (I0.trans (b5.mono I0.size)), (kp f0), (fun _ => .inr ⟨u1, u2, rfl, hr9⟩), (kp f2), (kp f3), (kp f4), (fun h => by
              obtain ⟨A', c', R', d', rvs, e, q, l⟩ := f5 (upd_ne h (by decide))
              exact ⟨A', c', R', d', rvs, e, q.below b5 (Nat.le_refl _), upd_keep l⟩), (fun h => by
              obtain ⟨A', c', R', d', rvs, e, q, l⟩ := f6 (upd_ne h (by decide))
              exact ⟨A', c', R', d', rvs, e, q.below b5 (Nat.le_refl _), upd_keep l⟩), (fun h => by
              obtain ⟨A', c', R', d', rvs, e, q, l⟩ := f7 (upd_ne h (by decide))
              exact ⟨A', c', R', d', rvs, e, q.below b5 (Nat.le_refl _), upd_keep l⟩), (kp f8), (fun h => by
              obtain ⟨g, e, hg, r⟩ := f9 (upd_ne h (by decide))
              exact ⟨g, e, hg, r.imp (fun e => upd_keep e) (fun r => r.keep b5 r.lt)⟩), (fun h => by
              obtain ⟨g, A', c', R', d', rvs, e, hg, r, q, la, lf⟩ := f10 (upd_ne h (by decide))
              exact ⟨g, A', c', R', d', rvs, e, hg, r.keep b5 r.lt, q.below b5 (Nat.le_refl _), upd_keep la, upd_keep lf⟩), (kp f11)⟩
          · obtain rfl := Option.some.inj ho
            refine wpOp_step rfl (fun K' hK => ?_)
            go_simp
            refine hK _ _ ?_
            exact ⟨_, _, _, _, _, _, _, _, _, _, _, rfl, (I0), (kp f0), (fun h => (f1 (upd_ne h (by decide))).imp (fun e => upd_keep e) id), (fun _ => rfl), (kp f3), (kp f4), (fun h => by
              obtain ⟨A', c', R', d', rvs, e, q, l⟩ := f5 (upd_ne h (by decide))
              exact ⟨A', c', R', d', rvs, e, q, upd_keep l⟩), (fun h => by
              obtain ⟨A', c', R', d', rvs, e, q, l⟩ := f6 (upd_ne h (by decide))
              exact ⟨A', c', R', d', rvs, e, q, upd_keep l⟩), (fun h => by
              obtain ⟨A', c', R', d', rvs, e, q, l⟩ := f7 (upd_ne h (by decide))
              exact ⟨A', c', R', d', rvs, e, q, upd_keep l⟩), (kp f8), (fun h => by
              obtain ⟨g, e, hg, r⟩ := f9 (upd_ne h (by decide))
              exact ⟨g, e, hg, r.imp (fun e => upd_keep e) (fun r => r)⟩), (fun h => by
              obtain ⟨g, A', c', R', d', rvs, e, hg, r, q, la, lf⟩ := f10 (upd_ne h (by decide))
              exact ⟨g, A', c', R', d', rvs, e, hg, r, q, upd_keep la, upd_keep lf⟩), (kp f11)⟩
          · obtain rfl := Option.some.inj ho
            have y0 : ww.cell? ⟨ga + 1, 0, none⟩ = some (.int .i64 o.op) := (I0.cell (p := ⟨ga + 1, 0, none⟩) hgb).trans xb0
            have y1 : ww.cell? ⟨ga + 1, 1, none⟩ = some (.int .i64 o.a) := (I0.cell (p := ⟨ga + 1, 1, none⟩) hgb).trans xb1
            have y2 : ww.cell? ⟨ga + 1, 2, none⟩ = some (.int .i64 o.b) := (I0.cell (p := ⟨ga + 1, 2, none⟩) hgb).trans xb2
            have y3 : ww.cell? ⟨ga + 1, 3, none⟩ = some (.int .i64 o.c) := (I0.cell (p := ⟨ga + 1, 3, none⟩) hgb).trans xb3
            refine wpOp_step rfl (fun K' hK => ?_)
            go_simp
            refine hK _ _ ?_
            exact ⟨_, _, _, _, _, _, _, _, _, _, _, rfl, (I0), (kp f0), (fun h => (f1 (upd_ne h (by decide))).imp (fun e => upd_keep e) id), (kp f2), (fun _ => rfl), (kp f4), (fun h => by
              obtain ⟨A', c', R', d', rvs, e, q, l⟩ := f5 (upd_ne h (by decide))
              exact ⟨A', c', R', d', rvs, e, q, upd_keep l⟩), (fun h => by
              obtain ⟨A', c', R', d', rvs, e, q, l⟩ := f6 (upd_ne h (by decide))
              exact ⟨A', c', R', d', rvs, e, q, upd_keep l⟩), (fun h => by
              obtain ⟨A', c', R', d', rvs, e, q, l⟩ := f7 (upd_ne h (by decide))
              exact ⟨A', c', R', d', rvs, e, q, upd_keep l⟩), (kp f8), (fun h => by
              obtain ⟨g, e, hg, r⟩ := f9 (upd_ne h (by decide))
              exact ⟨g, e, hg, r.imp (fun e => upd_keep e) (fun r => r)⟩), (fun h => by
              obtain ⟨g, A', c', R', d', rvs, e, hg, r, q, la, lf⟩ := f10 (upd_ne h (by decide))
              exact ⟨g, A', c', R', d', rvs, e, hg, r, q, upd_keep la, upd_keep lf⟩), (kp f11)⟩
          · obtain rfl := Option.some.inj ho
            have g3 := f3 (hd ⟨3, .data⟩ (by simp) rfl)
            subst g3
            refine wpOp_step rfl (fun K' hK => ?_)
            go_simp
            refine (toCommand_any o ww).mono ?_
            rintro e w' ⟨rfl, b5⟩
            refine hK _ _ ?_
            exact ⟨_, _, _, _, _, _, _, _, _, _, _, rfl, (I0.trans (b5.mono I0.size)), (kp f0), (fun h => (f1 (upd_ne h (by decide))).imp (fun e => upd_keep e) (fun ⟨u1, u2, e, q⟩ => ⟨u1, u2, e, q.up b5⟩)), (kp f2), (kp f3), (fun _ => rfl), (fun h => by
              obtain ⟨A', c', R', d', rvs, e, q, l⟩ := f5 (upd_ne h (by decide))
              exact ⟨A', c', R', d', rvs, e, q.below b5 (Nat.le_refl _), upd_keep l⟩), (fun h => by
              obtain ⟨A', c', R', d', rvs, e, q, l⟩ := f6 (upd_ne h (by decide))
              exact ⟨A', c', R', d', rvs, e, q.below b5 (Nat.le_refl _), upd_keep l⟩), (fun h => by
              obtain ⟨A', c', R', d', rvs, e, q, l⟩ := f7 (upd_ne h (by decide))
              exact ⟨A', c', R', d', rvs, e, q.below b5 (Nat.le_refl _), upd_keep l⟩), (kp f8), (fun h => by
              obtain ⟨g, e, hg, r⟩ := f9 (upd_ne h (by decide))
              exact ⟨g, e, hg, r.imp (fun e => upd_keep e) (fun r => r.keep b5 r.lt)⟩), (fun h => by
              obtain ⟨g, A', c', R', d', rvs, e, hg, r, q, la, lf⟩ := f10 (upd_ne h (by decide))
              exact ⟨g, A', c', R', d', rvs, e, hg, r.keep b5 r.lt, q.below b5 (Nat.le_refl _), upd_keep la, upd_keep lf⟩), (kp f11)⟩
          · obtain rfl := Option.some.inj ho
            have g1 := f1 (hd ⟨1, .data⟩ (by simp) rfl)
            have g2 := f2 (hd ⟨2, .data⟩ (by simp) rfl)
            have g4 := f4 (hd ⟨4, .data⟩ (by simp) rfl)
            subst g2
            subst g4
            rcases g1 with q | ⟨u1, u2, rfl, hr9⟩
            · rw [hL] at q
              cases q
            refine wpOp_step rfl (fun K' hK => ?_)
            go_simp
            refine (stepSweep_any _ _ _ _ _ _ lim h o ww (HTZ.out.below (bbk.trans (I0.mono bbk.size))) (hr9) (by omega) (by omega) (Nat.le_refl _) (Nat.le_refl _)).mono ?_
            rw [HH.out, HVB.out]
            rintro e w' ⟨vc, vr, rfl, ⟨rvs, ow⟩, b5⟩
            obtain ⟨A', c', R', d', rfl, rfl, -⟩ := ow.form
            rw [E0.out, E4.out] at ow ⊢
            have ob := ow.base I0.size
            refine hK _ _ ?_
            exact ⟨_, _, _, _, _, _, _, _, _, _, _, rfl, (I0.trans (b5.mono I0.size)), (kp f0), (fun _ => .inl upd_self), (kp f2), (kp f3), (kp f4), (fun _ => ⟨A', c', R', d', rvs, rfl, ob, upd_self⟩), (fun h => by
              obtain ⟨A', c', R', d', rvs, e, q, l⟩ := f6 (upd_ne h (by decide))
              rw [hL] at l
              cases l), (fun h => by
              obtain ⟨A', c', R', d', rvs, e, q, l⟩ := f7 (upd_ne h (by decide))
              rw [hL] at l
              cases l), (kp f8), (fun h => by
              obtain ⟨g, e, hg, r⟩ := f9 (upd_ne h (by decide))
              exact ⟨g, e, hg, r.imp (fun e => upd_keep e) (fun r => r.keep b5 r.lt)⟩), (fun h => by
              obtain ⟨g, A', c', R', d', rvs, e, hg, r, q, la, lf⟩ := f10 (upd_ne h (by decide))
              rw [hL] at lf
              cases lf), (kp f11)⟩
          · obtain rfl := Option.some.inj ho
            have g5 := f5 (hd ⟨5, .data⟩ (by simp) rfl)
            obtain ⟨A', c', R', d', rvs, rfl, ow, lf⟩ := g5
            refine wpOp_step rfl (fun K' hK => ?_)
            go_simp
            refine hK _ _ ?_
            exact ⟨_, _, _, _, _, _, _, _, _, _, _, rfl, (I0), (kp f0), (fun h => (f1 (upd_ne h (by decide))).imp (fun e => upd_keep e) id), (kp f2), (kp f3), (kp f4), (fun _ => ⟨A', c', R', d', rvs, rfl, ow, upd_keep lf⟩), (fun _ => ⟨A', c', R', d', rvs, rfl, ow, upd_keep lf⟩), (fun h => by
              obtain ⟨A', c', R', d', rvs, e, q, l⟩ := f7 (upd_ne h (by decide))
              exact ⟨A', c', R', d', rvs, e, q, upd_keep l⟩), (kp f8), (fun h => by
              obtain ⟨g, e, hg, r⟩ := f9 (upd_ne h (by decide))
              exact ⟨g, e, hg, r.imp (fun e => upd_keep e) (fun r => r)⟩), (fun h => by
              obtain ⟨g, A', c', R', d', rvs, e, hg, r, q, la, lf⟩ := f10 (upd_ne h (by decide))
              exact ⟨g, A', c', R', d', rvs, e, hg, r, q, upd_keep la, upd_keep lf⟩), (kp f11)⟩
          · obtain rfl := Option.some.inj ho
            have g6 := f6 (hd ⟨6, .data⟩ (by simp) rfl)
            obtain ⟨A', c', R', d', rvs, rfl, ow, lf⟩ := g6
            refine wpOp_step rfl (fun K' hK => ?_)
            go_simp
            refine hK _ _ ?_
            exact ⟨_, _, _, _, _, _, _, _, _, _, _, rfl, (I0), (kp f0), (fun h => (f1 (upd_ne h (by decide))).imp (fun e => upd_keep e) id), (kp f2), (kp f3), (kp f4), (fun h => by
              obtain ⟨A', c', R', d', rvs, e, q, l⟩ := f5 (upd_ne h (by decide))
              exact ⟨A', c', R', d', rvs, e, q, upd_keep l⟩), (fun _ => ⟨A', c', R', d', rvs, rfl, ow, upd_keep lf⟩), (fun _ => ⟨A', c', R', d', rvs, rfl, ow, upd_keep lf⟩), (kp f8), (fun h => by
              obtain ⟨g, e, hg, r⟩ := f9 (upd_ne h (by decide))
              exact ⟨g, e, hg, r.imp (fun e => upd_keep e) (fun r => r)⟩), (fun h => by
              obtain ⟨g, A', c', R', d', rvs, e, hg, r, q, la, lf⟩ := f10 (upd_ne h (by decide))
              exact ⟨g, A', c', R', d', rvs, e, hg, r, q, upd_keep la, upd_keep lf⟩), (kp f11)⟩
          · obtain rfl := Option.some.inj ho
            have g6 := f6 (hd ⟨6, .data⟩ (by simp) rfl)
            obtain ⟨A', c', R', d', rvs, rfl, ow, lf⟩ := g6
            refine wpOp_step rfl (fun K' hK => ?_)
            go_simp
            refine hK _ _ ?_
            exact ⟨_, _, _, _, _, _, _, _, _, _, _, rfl, (I0), (kp f0), (fun h => (f1 (upd_ne h (by decide))).imp (fun e => upd_keep e) id), (kp f2), (kp f3), (kp f4), (fun h => by
              obtain ⟨A', c', R', d', rvs, e, q, l⟩ := f5 (upd_ne h (by decide))
              exact ⟨A', c', R', d', rvs, e, q, upd_keep l⟩), (fun _ => ⟨A', c', R', d', rvs, rfl, ow, upd_keep lf⟩), (fun h => by
              obtain ⟨A', c', R', d', rvs, e, q, l⟩ := f7 (upd_ne h (by decide))
              exact ⟨A', c', R', d', rvs, e, q, upd_keep l⟩), (fun _ => rfl), (fun h => by
              obtain ⟨g, e, hg, r⟩ := f9 (upd_ne h (by decide))
              exact ⟨g, e, hg, r.imp (fun e => upd_keep e) (fun r => r)⟩), (fun h => by
              obtain ⟨g, A', c', R', d', rvs, e, hg, r, q, la, lf⟩ := f10 (upd_ne h (by decide))
              exact ⟨g, A', c', R', d', rvs, e, hg, r, q, upd_keep la, upd_keep lf⟩), (kp f11)⟩
          · obtain rfl := Option.some.inj ho
            have bA : Below ww.heap.size ww (ww.alloc (.cells #[.slice none 0 0, .slice none 0 0] 26)) := (Below.refl _ _).alloc (Nat.le_refl _) _
            refine wpOp_step rfl (fun K' hK => ?_)
            go_simp
            refine hK _ _ ?_
            exact ⟨_, _, _, _, _, _, _, _, _, _, _, rfl, (I0.trans (bA.mono I0.size)), (kp f0), (fun h => (f1 (upd_ne h (by decide))).imp (fun e => upd_keep e) (fun ⟨u1, u2, e, q⟩ => ⟨u1, u2, e, q.up bA⟩)), (kp f2), (kp f3), (kp f4), (fun h => by
              obtain ⟨A', c', R', d', rvs, e, q, l⟩ := f5 (upd_ne h (by decide))
              exact ⟨A', c', R', d', rvs, e, q.below bA (Nat.le_refl _), upd_keep l⟩), (fun h => by
              obtain ⟨A', c', R', d', rvs, e, q, l⟩ := f6 (upd_ne h (by decide))
              exact ⟨A', c', R', d', rvs, e, q.below bA (Nat.le_refl _), upd_keep l⟩), (fun h => by
              obtain ⟨A', c', R', d', rvs, e, q, l⟩ := f7 (upd_ne h (by decide))
              exact ⟨A', c', R', d', rvs, e, q.below bA (Nat.le_refl _), upd_keep l⟩), (kp f8), (fun _ => ⟨ww.heap.size, rfl, I0.size, .inr (Rw.new ww _ _)⟩), (fun h => by
              obtain ⟨g, A', c', R', d', rvs, e, hg, r, q, la, lf⟩ := f10 (upd_ne h (by decide))
              rw [hL] at la
              cases la), (kp f11)⟩
          · obtain rfl := Option.some.inj ho
            have g7 := f7 (hd ⟨7, .data⟩ (by simp) rfl)
            have g9 := f9 (hd ⟨9, .data⟩ (by simp) rfl)
            obtain ⟨g, rfl, hg, rz⟩ := g9
            rcases rz with q | rz
            · rw [hL] at q
              cases q
            obtain ⟨A', c', R', d', rvs, rfl, ow, lf⟩ := g7
            have u0 := rz.cell 0
            have u1 := rz.cell 1
            have v0 := rz.frozen 0
            have v1 := rz.frozen 1
            simp at u0 u1
            have la := hd ⟨9, .data⟩ (by simp) rfl
            refine wpOp_step rfl (fun K' hK => ?_)
            go_simp
            refine hK _ _ ?_
            exact ⟨_, _, _, _, _, _, _, _, _, _, _, rfl, ((I0.setCell (p := ⟨g, 0, none⟩) hg _).setCell (p := ⟨g, 1, none⟩) hg _), (kp f0), (fun _ => .inl (upd_keep lf)), (kp f2), (kp f3), (kp f4), (fun h => by
              obtain ⟨A', c', R', d', rvs, e, q, l⟩ := f5 (upd_ne h (by decide))
              exact ⟨A', c', R', d', rvs, e, q.put2 rz _ _, upd_keep l⟩), (fun h => by
              obtain ⟨A', c', R', d', rvs, e, q, l⟩ := f6 (upd_ne h (by decide))
              exact ⟨A', c', R', d', rvs, e, q.put2 rz _ _, upd_keep l⟩), (fun _ => ⟨A', c', R', d', rvs, rfl, ow.put2 rz _ _, upd_keep lf⟩), (kp f8), (fun _ => ⟨g, rfl, hg, .inl upd_self⟩), (fun _ => ⟨g, A', c', R', d', rvs, rfl, hg, (rz.put 0 _).put 1 _, ow.put2 rz _ _, upd_keep la, upd_keep lf⟩), (kp f11)⟩
          · obtain rfl := Option.some.inj ho
            have g8 := f8 (hd ⟨8, .data⟩ (by simp) rfl)
            subst g8
            refine wpOp_step rfl (fun K' hK => ?_)
            go_simp
            refine hK _ _ ?_
            exact ⟨_, _, _, _, _, _, _, _, _, _, _, rfl, (I0), (kp f0), (fun h => (f1 (upd_ne h (by decide))).imp (fun e => upd_keep e) id), (kp f2), (kp f3), (kp f4), (fun h => by
              obtain ⟨A', c', R', d', rvs, e, q, l⟩ := f5 (upd_ne h (by decide))
              exact ⟨A', c', R', d', rvs, e, q, upd_keep l⟩), (fun h => by
              obtain ⟨A', c', R', d', rvs, e, q, l⟩ := f6 (upd_ne h (by decide))
              exact ⟨A', c', R', d', rvs, e, q, upd_keep l⟩), (fun h => by
              obtain ⟨A', c', R', d', rvs, e, q, l⟩ := f7 (upd_ne h (by decide))
              exact ⟨A', c', R', d', rvs, e, q, upd_keep l⟩), (kp f8), (fun h => by
              obtain ⟨g, e, hg, r⟩ := f9 (upd_ne h (by decide))
              exact ⟨g, e, hg, r.imp (fun e => upd_keep e) (fun r => r)⟩), (fun h => by
              obtain ⟨g, A', c', R', d', rvs, e, hg, r, q, la, lf⟩ := f10 (upd_ne h (by decide))
              exact ⟨g, A', c', R', d', rvs, e, hg, r, q, upd_keep la, upd_keep lf⟩), (fun _ => rfl)⟩
        case hdone =>
          rintro L ac ww hall ⟨t16, t17, t83, t84, t85, t86, t87, t88, t89, t90, t91, rfl, I0, f0, f1, f2, f3, f4, f5, f6, f7, f8, f9, f10, f11⟩
          have e0 := f0 (hall 0 (by decide))
          have e1 := f1 (hall 1 (by decide))
          have e2 := f2 (hall 2 (by decide))
          have e3 := f3 (hall 3 (by decide))
          have e4 := f4 (hall 4 (by decide))
          have e5 := f5 (hall 5 (by decide))
          have e6 := f6 (hall 6 (by decide))
          have e7 := f7 (hall 7 (by decide))
          have e8 := f8 (hall 8 (by decide))
          have e9 := f9 (hall 9 (by decide))
          have e10 := f10 (hall 10 (by decide))
          have e11 := f11 (hall 11 (by decide))
          clear f0 f1 f2 f3 f4 f5 f6 f7 f8 f9 f10 f11
          have ht15 := e11
          obtain ⟨g14, A2, c2, R2, d2, rvs2, ep, hg14, x2, o2, -⟩ := e10
          clear e0 e1 e2 e3 e4 e5 e6 e7 e8 e9 e11 hall
          subst ht15 ep
          have r9 := o2.reads
          replace o0 := o0.below I0 (Nat.le_refl _)
          replace x0 := x0.keep I0 x0.lt
          replace x1 := x1.keep I0 x1.lt
          replace r6 := r6.up I0
          replace bbk := bbk.trans (I0.mono bbk.size)
          clear xa0 xa1 xb0 xb1 xb2 xb3 hgl hgb q0 q1 o2 I0
          generalize ww = w15 at *
          have y0 : w15.cell? ⟨g5, 0, none⟩ = some (.slice A0 nn c0) := x0.cell 0
          have y1 : w15.cell? ⟨g5, 1, none⟩ = some (.slice R0 mm d0) := x0.cell 1
          have y4 : w15.cell? ⟨g14, 0, none⟩ = some (.slice A2 nn c2) := x2.cell 0
          have y5 : w15.cell? ⟨g14, 1, none⟩ = some (.slice R2 mm d2) := x2.cell 1
          go_wp2_with fail
          refine (eqHeap_any _ _ _ _ _ _ _ _ _ _ _ _ hh hh _ r9 o0.reads (by omega) (by omega) (by omega) (by omega) H3.out H3.out).mono ?_
          rw [decide_eq_true rfl]
          rintro e w16 ⟨rfl, b16⟩
          replace x1 := x1.keep b16 x1.lt
          replace r6 := r6.up b16
          replace bbk := bbk.trans (b16.mono bbk.size)
          clear b16 y0 y1 y4 y5 o0 x0 x2 r9
          have y2 : w16.cell? ⟨g9, 0, none⟩ = some (.slice A1 nn c1) := x1.cell 0
          have y3 : w16.cell? ⟨g9, 1, none⟩ = some (.slice R1 mm d1) := x1.cell 1
          go_wp2_with fail
          refine (heldHeap_any _ _ _ _ _ _ hh _ _ r6 E0.out E4.out (by omega) (by omega) HSZ.out).mono ?_
          rw [HKV.out]
          rintro e w17 ⟨rfl, b17⟩
          have bbf := bbk.trans (b17.mono bbk.size)
          go_wp2_with fail
          go_ret
          exact ⟨rfl, bbf⟩
end Go.Proofs.YthmddmddcdofaaaDoor

namespace Go.Proofs.YthmddmddcdofaaaDoor
open Go.ChangeShapes Go.WideShapes Go.ChangeAt Go.RowKit Go.Deep
section
variable {H : Type} {enc : TypeId × Value → H} {P : Program} {W : World}
/-- a slice of numbers -/
theorem nums_trod {t e : TypeId} {fuel : Nat} {v : Value} {x : DataW H × List MemPlace} (ht : P.underlying t = some (.slice e)) (he : P.underlying e = some (.int .i64)) (ce : P.cellsOf e = 1)
    (hf : DataW.trod enc P W 0 (fun _ => true) true fuel t [v] = some x) (hlt : ∀ y ∈ x.2, y.block < W.heap.size) :
    ∃ (A : Option Addr) (n c : Nat) (xs : List Int), v = .slice A n c ∧ n ≤ c ∧ n ≤ 9223372036854775807 ∧ IS W W.heap.size A n xs ∧ AllN xs := by
  rcases open_ints ht he ce hf with ⟨h0, _⟩ | ⟨a, len, cap, zs, hcs, hb, hl, hm, hz, hx, hi, hwf⟩
  · injection h0 with h0
    subst h0
    exact ⟨none, 0, 0, [], rfl, by omega, by omega, IS.none_ _ _ _, fun k v hv => by simp at hv⟩
  · injection hcs with hcs
    subst hcs
    simp only [if_true] at hz
    refine ⟨some a, len, cap, zs.take len, rfl, hl, by unfold maxLen at hm; omega, ⟨by rw [List.length_take]; omega, fun hn => ?_⟩, fun k v hv => i64_of_wf (hwf v (List.mem_of_mem_take (List.mem_of_getElem? hv)))⟩
    have h0 := hi 0 (by omega)
    simp [Addr.add] at h0
    have ha := addr_of_cell h0
    have hblt : a.block < W.heap.size := by
      apply hlt (.cell a.block a.off)
      rw [hx, hz, ha]
      simp [MemPlace.row]
      omega
    refine ⟨a.block, a.off, by rw [← ha], hblt, fun k y hk => ?_⟩
    have hkn := (List.getElem?_eq_some_iff.1 hk).1
    rw [List.length_take] at hkn
    rw [List.getElem?_take_of_lt (by omega)] at hk
    have hc := hi k (by omega)
    rw [ha, add_none, List.getD_eq_getElem?_getD, hk] at hc
    exact hc
/-- a slice of cells -/
theorem cells_trod {t e tb ti tr : TypeId} {f0 f1 f2 : Field} {fuel : Nat} {v : Value} {x : DataW H × List MemPlace} (ht : P.underlying t = some (.slice e)) (he : P.underlying e = some (.struct #[f0, f1, f2])) (ce : P.cellsOf e = 3)
    (t0 : f0.type = tb) (t1 : f1.type = ti) (t2 : f2.type = tr) (o0 : f0.offset = 0) (o1 : f1.offset = 1) (o2 : f2.offset = 2)
    (htb : P.underlying tb = some .bool) (hti : P.underlying ti = some (.int .i64)) (htr : P.underlying tr = some (.slice ti)) (cb : P.cellsOf tb = 1) (ci : P.cellsOf ti = 1) (cr : P.cellsOf tr = 1)
    (hf : DataW.trod enc P W 0 (fun _ => true) true fuel t [v] = some x) (hlt : ∀ y ∈ x.2, y.block < W.heap.size) :
    ∃ (A : Option Addr) (n c : Nat) (cs : List Cl), v = .slice A n c ∧ n ≤ c ∧ n ≤ 9223372036854775807 ∧ CS W W.heap.size A n cs ∧ ∀ cl ∈ cs, I64 cl.d ∧ AllN cl.r ∧ cl.r.length ≤ 9223372036854775807 := by
  rcases open_slice ht hf with ⟨h0, _⟩ | ⟨a, len, cap, m, n', D, Pl, hcs, hb, hl, hm, hmm, hx, hi⟩
  · injection h0 with h0
    subst h0
    exact ⟨none, 0, 0, [], rfl, by omega, by omega, CS.none_ _ _ _, fun cl hcl => by simp at hcl⟩
  · injection hcs with hcs
    subst hcs
    simp only [if_true] at hmm
    subst hmm
    have each : ∀ i, i < len → ∃ q : Cl × Option Addr × Nat × Nat, I64 q.1.d ∧ AllN q.1.r ∧ q.2.2.1 ≤ 9223372036854775807 ∧ W.cell? (a.add (i * 3)) = some (.bool q.1.u) ∧ W.cell? (a.add (i * 3 + 1)) = some (.int .i64 q.1.d) ∧ W.cell? (a.add (i * 3 + 2)) = some (.slice q.2.1 q.2.2.1 q.2.2.2) ∧ q.2.2.1 ≤ q.2.2.2 ∧ IS W W.heap.size q.2.1 q.2.2.1 q.1.r := by
      intro i hin
      obtain ⟨cs', h1, h2⟩ := hi i (by omega)
      rw [ce] at h1
      obtain ⟨_, hlen, hcell⟩ := World.cells?_some h1
      obtain ⟨ys, k, _, hys, _, hyl, hfd⟩ := DataW.trod_struct he h2
      match cs', hlen with
      | [v0, v1, v2], _ =>
        have g0 := hfd 0 f0 rfl
        have g1 := hfd 1 f1 rfl
        have g2 := hfd 2 f2 rfl
        rw [t0, o0, cb] at g0
        rw [t1, o1, ci] at g1
        rw [t2, o2, cr] at g2
        rw [List.getElem?_eq_getElem (by rw [hyl]; simp)] at g0 g1 g2
        obtain ⟨u, e0, _⟩ := DataW.trod_bool htb g0
        obtain ⟨n1, e1, _, w1⟩ := DataW.trod_int hti g1
        simp at e0 e1
        subst e0 e1
        have hlt2 : ∀ y ∈ (ys[2]'(by rw [hyl]; simp)).2, y.block < W.heap.size := fun y hy => by
          apply hlt
          rw [hx]
          apply List.mem_append_right
          rw [List.mem_flatMap]
          refine ⟨i, by simp; omega, ?_⟩
          have := congrArg Prod.snd hys
          simp only [] at this
          rw [this, List.mem_flatMap]
          exact ⟨_, List.getElem_mem _, hy⟩
        obtain ⟨A2, n2, c2, xs2, e2, hnc, hn2, hi2, ha2⟩ := nums_trod htr hti ci g2 hlt2
        subst e2
        have q0 := hcell 0 (by omega)
        have q1 := hcell 1 (by omega)
        have q2 := hcell 2 (by omega)
        rw [add_add] at q0 q1 q2
        exact ⟨(⟨u, n1, xs2⟩, A2, n2, c2), i64_of_wf w1, ha2, hn2, by simpa using q0, by simpa using q1, by simpa using q2, hnc, hi2⟩
    obtain ⟨F, hF⟩ := choose_lt each
    refine ⟨some a, len, _, (List.range len).map fun i => (F i).1, rfl, hl, by unfold maxLen at hm; omega, ⟨by simp, fun hn => ?_⟩, fun cl hcl => ?_⟩
    · have h0 := (hF 0 hn).2.2.2.1
      simp [Addr.add] at h0
      have ha := addr_of_cell h0
      have hblt : a.block < W.heap.size := by
        apply hlt (.cell a.block a.off)
        rw [hx, ce]
        apply List.mem_append_left
        rw [ha]
        simp [MemPlace.row]
        omega
      refine ⟨a.block, a.off, by rw [← ha], hblt, fun k c hk => ?_⟩
      have hkn : k < len := by
        have := (List.getElem?_eq_some_iff.1 hk).1
        simpa using this
      simp only [List.getElem?_map] at hk
      rw [List.getElem?_range hkn] at hk
      simp at hk
      subst hk
      obtain ⟨_, _, _, q1, q2, q3, q4, q5⟩ := hF k hkn
      rw [ha, add_none] at q1 q2 q3
      exact ⟨q1, by rw [Nat.add_assoc]; exact q2, _, _, _, by rw [Nat.add_assoc]; exact q3, q4, q5⟩
    · obtain ⟨i, hi', rfl⟩ := List.mem_map.1 hcl
      obtain ⟨q1, q2, q3, _, _, _, _, q5⟩ := hF i (by simpa using hi')
      exact ⟨q1, q2, by rw [q5.1]; exact q3⟩
/-- a heap -/
theorem open_heap {t tc tn e tb ti : TypeId} {h0 h1 f0 f1 f2 : Field} {r : Reach} {b0 : Nat} {v : Value} {d : DataW H} {ps : List MemPlace}
    (hh : P.underlying t = some (.struct #[h0, h1])) (ch : P.cellsOf t = 2) (s0 : h0.type = tc) (s1 : h1.type = tn) (p0 : h0.offset = 0) (p1 : h1.offset = 1) (ctc : P.cellsOf tc = 1) (ctn : P.cellsOf tn = 1)
    (htc : P.underlying tc = some (.slice e)) (htn : P.underlying tn = some (.slice ti)) (he : P.underlying e = some (.struct #[f0, f1, f2])) (ce : P.cellsOf e = 3)
    (t0 : f0.type = tb) (t1 : f1.type = ti) (t2 : f2.type = tn) (o0 : f0.offset = 0) (o1 : f1.offset = 1) (o2 : f2.offset = 2)
    (htb : P.underlying tb = some .bool) (hti : P.underlying ti = some (.int .i64)) (cb : P.cellsOf tb = 1) (ci : P.cellsOf ti = 1)
    (hval : Value.okWide P W r b0 t v) (h : DataW.Trod enc P W 0 (fun _ => true) true t v d ps) (hlt : ∀ x ∈ ps, x.block < W.heap.size) :
    ∃ (A R : Option Addr) (n c m dd : Nat) (hp : Hp), v = .agg #[.slice A n c, .slice R m dd] ∧ n ≤ 9223372036854775807 ∧ m ≤ 9223372036854775807 ∧ HS W W.heap.size A n R m hp ∧ AllN hp.rt ∧ ∀ cl ∈ hp.cs, I64 cl.d ∧ AllN cl.r ∧ cl.r.length ≤ 9223372036854775807 := by
  obtain ⟨cs, rfl, hsz⟩ := okWide_struct hh hval
  rw [ch] at hsz
  obtain ⟨fuel, hf⟩ := h
  obtain ⟨ys, k, _, hys, _, hyl, hfd⟩ := DataW.trod_struct hh hf
  obtain ⟨l⟩ := cs
  match l, hsz with
  | [v0, v1], _ =>
    have g0 := hfd 0 h0 rfl
    have g1 := hfd 1 h1 rfl
    rw [s0, p0, ctc] at g0
    rw [s1, p1, ctn] at g1
    rw [List.getElem?_eq_getElem (by rw [hyl]; simp)] at g0 g1
    simp [Value.cells] at g0 g1
    have hpl : ∀ (i : Nat) (hi : i < ys.length), ∀ y ∈ (ys[i]).2, y.block < W.heap.size := fun i hi y hy => by
      apply hlt
      have := congrArg Prod.snd hys
      simp only [] at this
      rw [this, List.mem_flatMap]
      exact ⟨_, List.getElem_mem _, hy⟩
    obtain ⟨A, n, c, cs, e0, _, hn, hC, ha⟩ := cells_trod htc he ce t0 t1 t2 o0 o1 o2 htb hti htn cb ci ctn g0 (hpl 0 _)
    obtain ⟨R, m, dd, xs, e1, _, hm, hI, hx⟩ := nums_trod htn hti ci g1 (hpl 1 _)
    subst e0 e1
    exact ⟨A, R, n, c, m, dd, ⟨cs, xs⟩, rfl, hn, hm, ⟨hC, hI⟩, hx, ha⟩
end
end Go.Proofs.YthmddmddcdofaaaDoor

namespace Go.Proofs.YthmddmddcdofaaaDoor
open Go.ChangeShapes Go.WideShapes Go.ChangeAt Go.RowKit Go.Deep
set_option maxRecDepth 100000
theorem open_lawsHeap {H : Type} {enc : TypeId × Value → H} {W : World} {r : Reach} {base : Nat} {v : Value} {d : DataW H} {ps : List MemPlace} (hval : Value.okWide Tryd.prog W r base 60 v) (h : DataW.Trod enc Tryd.prog W 0 (fun _ => true) true 60 v d ps) (hlt : ∀ x ∈ ps, x.block < W.heap.size) :
    ∃ (A R : Option Addr) (n c m dd : Nat) (hp : Hp), v = .agg #[.slice A n c, .slice R m dd] ∧ n ≤ 9223372036854775807 ∧ m ≤ 9223372036854775807 ∧ HS W W.heap.size A n R m hp ∧ AllN hp.rt ∧ ∀ cl ∈ hp.cs, I64 cl.d ∧ AllN cl.r ∧ cl.r.length ≤ 9223372036854775807 :=
  open_heap (tc := 58) (tn := 24) (e := 161) (tb := 4) (ti := 3) Tryd.underlying60 (by kernel_rfl) rfl rfl rfl rfl (by kernel_rfl) (by kernel_rfl) Tryd.underlying58 Tryd.underlying24 Tryd.underlying161 (by kernel_rfl) rfl rfl rfl rfl rfl rfl Tryd.underlying4 Tryd.underlying3 (by kernel_rfl) (by kernel_rfl) hval h hlt
end Go.Proofs.YthmddmddcdofaaaDoor

namespace Go.Proofs.YthmddmddcdofaaaDoor
open Go.ChangeShapes Go.WideShapes Go.ChangeAt Go.RowKit Go.Deep
set_option maxRecDepth 100000
section
variable {H : Type} {enc : TypeId × Value → H} {P : Program} {W : World}
theorem open_four {t ti : TypeId} {f0 f1 f2 f3 : Field} {r : Reach} {b0 : Nat} {v : Value} {d : DataW H} {ps : List MemPlace}
    (he : P.underlying t = some (.struct #[f0, f1, f2, f3])) (ce : P.cellsOf t = 4)
    (t0 : f0.type = ti) (t1 : f1.type = ti) (t2 : f2.type = ti) (t3 : f3.type = ti) (o0 : f0.offset = 0) (o1 : f1.offset = 1) (o2 : f2.offset = 2) (o3 : f3.offset = 3)
    (hti : P.underlying ti = some (.int .i64)) (ci : P.cellsOf ti = 1)
    (hval : Value.okWide P W r b0 t v) (h : DataW.Trod enc P W 0 (fun _ => true) true t v d ps) :
    ∃ o : Cm, v = cmV o := by
  obtain ⟨cs, rfl, hsz⟩ := okWide_struct he hval
  rw [ce] at hsz
  obtain ⟨fuel, hf⟩ := h
  obtain ⟨ys, k, _, _, _, hyl, hfd⟩ := DataW.trod_struct he hf
  obtain ⟨l⟩ := cs
  match l, hsz with
  | [v0, v1, v2, v3], _ =>
    have g0 := hfd 0 f0 rfl
    have g1 := hfd 1 f1 rfl
    have g2 := hfd 2 f2 rfl
    have g3 := hfd 3 f3 rfl
    rw [t0, o0, ci] at g0
    rw [t1, o1, ci] at g1
    rw [t2, o2, ci] at g2
    rw [t3, o3, ci] at g3
    rw [List.getElem?_eq_getElem (by rw [hyl]; simp)] at g0 g1 g2 g3
    obtain ⟨n0, e0, _, _⟩ := DataW.trod_int hti g0
    obtain ⟨n1, e1, _, _⟩ := DataW.trod_int hti g1
    obtain ⟨n2, e2, _, _⟩ := DataW.trod_int hti g2
    obtain ⟨n3, e3, _, _⟩ := DataW.trod_int hti g3
    simp [Value.cells] at e0 e1 e2 e3
    subst e0 e1 e2 e3
    exact ⟨⟨n0, n1, n2, n3⟩, rfl⟩
end
theorem open_lawsCommand {H : Type} {enc : TypeId × Value → H} {W : World} {r : Reach} {base : Nat} {v : Value} {d : DataW H} {ps : List MemPlace} (hval : Value.okWide Tryd.prog W r base 68 v) (h : DataW.Trod enc Tryd.prog W 0 (fun _ => true) true 68 v d ps) :
    ∃ o : Cm, v = cmV o :=
  open_four (ti := 3) Tryd.underlying68 (by kernel_rfl) rfl rfl rfl rfl rfl rfl rfl rfl Tryd.underlying3 (by kernel_rfl) hval h
end Go.Proofs.YthmddmddcdofaaaDoor

namespace Go.Proofs.YthmddmddcdofaaaDoor
open Go.ChangeShapes Go.WideShapes Go.ChangeAt Go.RowKit Go.Deep
section
variable {H : Type} {enc : TypeId × Value → H} {P : Program} {W W' : World}
end
end Go.Proofs.YthmddmddcdofaaaDoor

namespace Go.Proofs.YthmddmddcdofaaaDoor
open Go.ChangeShapes Go.WideShapes Go.ChangeAt Go.RowKit Go.Deep
theorem var_ltU {P : Program} {W : World} {n : String} {g : Nat} {cs : Array Value} (hg : P.globalNamed n = some g) (h : W.var? P n = some cs) : g < W.heap.size := by
  unfold World.var? at h
  simp only [hg, Option.bind_some] at h
  split at h
  · next h2 => exact (Array.getElem?_eq_some_iff.1 h2).1
  · cases h
theorem gTz : Tryd.prog.globalNamed "math/bits.deBruijn64tab" = some 0 := by kernel_rfl
theorem tab_cast : ∀ i : Nat, i < 64 → ([0, 1, 56, 2, 57, 49, 28, 3, 61, 58, 42, 50, 38, 29, 17, 4, 62, 47, 59, 36, 45, 43, 51, 22, 53, 39, 33, 30, 24, 18, 12, 5, 63, 55, 48, 27, 60, 41, 37, 16, 46, 35, 44, 21, 52, 32, 23, 11, 54, 26, 40, 15, 34, 20, 31, 10, 25, 14, 19, 9, 13, 8, 7, 6] : List Int).getD i 0 = (Lib.deBruijn64tab.getD i 0 : Nat) := by decide +kernel
theorem tzT_of_laid {W : World} (h : laidMetH Tryd.prog [("math/bits.deBruijn64tab", Rows.laid_math_bits_deBruijn64tab)] W) : TzT W := by
  rw [MakeChecks.laidMetH_plain _ _ _ (by kernel_rfl)] at h
  have hT : Lib.TabIs Tryd.prog W "math/bits.deBruijn64tab" .u8 [0, 1, 56, 2, 57, 49, 28, 3, 61, 58, 42, 50, 38, 29, 17, 4, 62, 47, 59, 36, 45, 43, 51, 22, 53, 39, 33, 30, 24, 18, 12, 5, 63, 55, 48, 27, 60, 41, 37, 16, 46, 35, 44, 21, 52, 32, 23, 11, 54, 26, 40, 15, 34, 20, 31, 10, 25, 14, 19, 9, 13, 8, 7, 6] :=
    Lib.tabIs_of_head (k := .u8) (zs := [0, 1, 56, 2, 57, 49, 28, 3, 61, 58, 42, 50, 38, 29, 17, 4, 62, 47, 59, 36, 45, 43, 51, 22, 53, 39, 33, 30, 24, 18, 12, 5, 63, 55, 48, 27, 60, 41, 37, 16, 46, 35, 44, 21, 52, 32, 23, 11, 54, 26, 40, 15, 34, 20, 31, 10, 25, 14, 19, 9, 13, 8, 7, 6]) (rest := []) (n := 64) (t := 169) (e := 5) gTz (by kernel_rfl) Tryd.underlying169 Tryd.underlying5 (by kernel_rfl) (by kernel_rfl) h
  exact ⟨var_ltU gTz hT, fun i hi => by
    rw [← tab_cast i hi]
    exact hT.cell gTz i (by simpa using hi)⟩
/-- the door's own heap meets the condition -/
theorem door_tz (os : Os) (args : Array Value) : laidMetH Tryd.prog [("math/bits.deBruijn64tab", Rows.laid_math_bits_deBruijn64tab)] ((World.doorLaid Tryd.prog 14 os).forCall (fun _ _ => 0) ⟨#[], args, []⟩).memory :=
  laidMetH_of_parts3 (fuel := 8) (laidMet_of_run' 8 (by kernel_rfl) (by kernel_rfl)) (by kernel_rfl) (by kernel_rfl)
end Go.Proofs.YthmddmddcdofaaaDoor

