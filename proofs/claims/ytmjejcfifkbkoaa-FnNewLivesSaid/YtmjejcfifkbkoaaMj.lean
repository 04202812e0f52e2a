/- What the program's madeCell returns, and what newCell does to a heap of the call's own. No conditions. -/
import Derived.Test.YtmjejcfifkbkoaaMh
import Derived.Test.YtmjejcfifkbkoaaMi
import Derived.Test.YtmjejcfifkbkoaaKz
import Derived.Deep.Cut
namespace Go.Proofs.Ytmjejcfifkbkoaa
open Go.RowKit
set_option maxRecDepth 100000


set_option maxHeartbeats 4000000 in
theorem madeCell_any {ob : Nat} {op a oc : Int} (hb3 : ob ≤ 3) (w : World) : Calls Try.prog 159 #[cmV ⟨op, a, ob, oc⟩] w fun e w' => ∃ v8, e = .returned (.agg #[.bool true, .int .i64 oc, v8]) ∧ OwnI w' w.heap.size v8 (List.replicate ob (-1)) ∧ Below w.heap.size w w' := by
  have B2 : Below w.heap.size w ((w.alloc (.cells #[.int .i64 op, .int .i64 a, .int .i64 ob, .int .i64 oc] 36)).alloc (.cells #[.bool false, .int .i64 0, .slice none 0 0] 61)) := ((Below.refl _ _).alloc (Nat.le_refl _) _).alloc (by simp) _
  have Q1 := (Rw.new w 36 #[.int .i64 op, .int .i64 a, .int .i64 ob, .int .i64 oc]).alloc (.cells #[.bool false, .int .i64 0, .slice none 0 0] 61)
  have Q2 := Rw.new (w.alloc (.cells #[.int .i64 op, .int .i64 a, .int .i64 ob, .int .i64 oc] 36)) 61 #[.bool false, .int .i64 0, .slice none 0 0]
  simp only [World.size_alloc] at Q2
  go_enter Try.func159, Try.ntmps159
  go_upto_region 1 with fail
  generalize ((w.alloc (.cells #[.int .i64 op, .int .i64 a, .int .i64 ob, .int .i64 oc] 36)).alloc (.cells #[.bool false, .int .i64 0, .slice none 0 0] 61)) = w2 at B2 Q1 Q2 ⊢
  obtain ⟨q, hq⟩ : ∃ q, w.heap.size = q := ⟨_, rfl⟩
  rw [hq] at B2 Q1 Q2 ⊢
  have HQ := Lib.hid hq
  clear hq
  have hql := Q1.lt
  have hrl := Q2.lt
  have y2 : w2.cell? ⟨q, 2, none⟩ = some (.int .i64 ob) := Q1.cell 2
  have y3 : w2.cell? ⟨q, 3, none⟩ = some (.int .i64 oc) := Q1.cell 3
  refine wp_region_inv (by kernel_rfl) (by kernel_rfl) (fun L ac ww => ∃ t3 t4 t5 t6 t7 t8 t9 : Value, ac = { tmps := #[cmV { op := op, a := a, b := ↑ob, c := oc }, Value.pointer (some { block := q, off := 0 }), Value.pointer (some { block := q + 1, off := 0 }), t3, t4, t5, t6, t7, t8, t9], defers := [] } ∧ (L 7 = false → Below w2.heap.size w2 ww) ∧ (L 0 = true → t3 = .pointer (some ⟨q, 3, none⟩)) ∧ (L 1 = true → t4 = .int .i64 oc) ∧ (L 2 = true → ∃ g2, t5 = .slice (some ⟨g2, 0, none⟩) 1 1 ∧ (L 5 = false → g2 < ww.heap.size ∧ ww.cell? ⟨g2, 0, none⟩ = some (.int .i64 (-1)))) ∧ (L 3 = true → t6 = .pointer (some ⟨q, 2, none⟩)) ∧ (L 4 = true → t7 = .int .i64 ob) ∧ (L 5 = true → ∃ A8 c8, t8 = .slice A8 ob c8 ∧ (L 7 = false → OwnI ww w2.heap.size t8 (List.replicate ob (-1)))) ∧ (L 6 = true → t9 = .agg #[.bool true, .int .i64 oc, t8] ∧ L 5 = true) ∧ (L 7 = true → (∀ q, q < 7 → L q = true) ∧ ∃ wp, ww = ((wp.setCell ⟨q + 1, 0, none⟩ (.bool true)).setCell ⟨q + 1, 1, none⟩ (.int .i64 oc)).setCell ⟨q + 1, 2, none⟩ t8 ∧ Below w2.heap.size w2 wp ∧ OwnI wp w2.heap.size t8 (List.replicate ob (-1)))) ?h0 ?hstep ?hdone
  case h0 => exact ⟨_, _, _, _, _, _, _, rfl, fun _ => (Below.refl _ _).drew, (fun h => absurd h Bool.false_ne_true), (fun h => absurd h Bool.false_ne_true), (fun h => absurd h Bool.false_ne_true), (fun h => absurd h Bool.false_ne_true), (fun h => absurd h Bool.false_ne_true), (fun h => absurd h Bool.false_ne_true), (fun h => absurd h Bool.false_ne_true), (fun h => absurd h Bool.false_ne_true)⟩
  case hstep =>
    rintro L ac ww i o ho hL hd ⟨t3, t4, t5, t6, t7, t8, t9, rfl, I0, f0, f1, f2, f3, f4, f5, f6, f7⟩
    have hi : i < 8 := (Array.getElem?_eq_some_iff.1 ho).1
    obtain rfl | rfl | rfl | rfl | rfl | rfl | rfl | rfl : i = 0 ∨ i = 1 ∨ i = 2 ∨ i = 3 ∨ i = 4 ∨ i = 5 ∨ i = 6 ∨ i = 7 := by omega
    · obtain rfl := Option.some.inj ho
      have hL7 : L 7 = false := by
        cases e : L 7
        · rfl
        · exact absurd ((f7 e).1 0 (by decide)) (by rw [hL]; decide)
      have J := I0 hL7
      refine wpOp_step rfl (fun K' hK => ?_)
      go_simp
      refine hK _ _ ?_
      exact ⟨_, _, _, _, _, _, _, rfl, (fun _ => J), (fun _ => rfl), (kp f1), (fun h => by
        obtain ⟨g2, e2, r2⟩ := f2 (upd_ne h (by decide))
        exact ⟨g2, e2, fun h5 => r2 (by rw [upd_other (by decide)] at h5; exact h5)⟩), (kp f3), (kp f4), (fun h => by
        obtain ⟨A8, c8, e8, r8⟩ := f5 (upd_ne h (by decide))
        exact ⟨A8, c8, e8, fun h7 => r8 (by rw [upd_other (by decide)] at h7; exact h7)⟩), (fun h => ⟨(f6 (upd_ne h (by decide))).1, upd_mono (f6 (upd_ne h (by decide))).2⟩), (fun h => absurd hL7 (by rw [upd_ne h (by decide)]; decide))⟩
    · obtain rfl := Option.some.inj ho
      have g0 := f0 (hd ⟨0, .data⟩ (by simp) rfl)
      subst g0
      have hL7 : L 7 = false := by
        cases e : L 7
        · rfl
        · exact absurd ((f7 e).1 1 (by decide)) (by rw [hL]; decide)
      have J := I0 hL7
      have z3 : ww.cell? ⟨q, 3, none⟩ = some (.int .i64 oc) := (J.cell (p := ⟨q, 3, none⟩) hql).trans y3
      refine wpOp_step rfl (fun K' hK => ?_)
      go_simp
      refine hK _ _ ?_
      exact ⟨_, _, _, _, _, _, _, rfl, (fun _ => J), (kp f0), (fun _ => rfl), (fun h => by
        obtain ⟨g2, e2, r2⟩ := f2 (upd_ne h (by decide))
        exact ⟨g2, e2, fun h5 => r2 (by rw [upd_other (by decide)] at h5; exact h5)⟩), (kp f3), (kp f4), (fun h => by
        obtain ⟨A8, c8, e8, r8⟩ := f5 (upd_ne h (by decide))
        exact ⟨A8, c8, e8, fun h7 => r8 (by rw [upd_other (by decide)] at h7; exact h7)⟩), (fun h => ⟨(f6 (upd_ne h (by decide))).1, upd_mono (f6 (upd_ne h (by decide))).2⟩), (fun h => absurd hL7 (by rw [upd_ne h (by decide)]; decide))⟩
    · obtain rfl := Option.some.inj ho
      have hL7 : L 7 = false := by
        cases e : L 7
        · rfl
        · exact absurd ((f7 e).1 2 (by decide)) (by rw [hL]; decide)
      have J := I0 hL7
      have b5 : Below ww.heap.size ww (ww.alloc (.cells #[.int .i64 (-1)] 3)) := (Below.refl _ _).alloc (Nat.le_refl _) _
      have c7 := (Rw.new ww 3 #[.int .i64 (-1)]).cell 0
      refine wpOp_step rfl (fun K' hK => ?_)
      go_simp
      refine hK _ _ ?_
      exact ⟨_, _, _, _, _, _, _, rfl, (fun _ => J.alloc J.size _), (kp f0), (kp f1), (fun _ => ⟨_, rfl, fun _ => ⟨by simp, c7⟩⟩), (kp f3), (kp f4), (fun h => by
        obtain ⟨A8, c8, e8, r8⟩ := f5 (upd_ne h (by decide))
        exact ⟨A8, c8, e8, fun h7 => (r8 hL7).below b5 (Nat.le_refl _)⟩), (fun h => ⟨(f6 (upd_ne h (by decide))).1, upd_mono (f6 (upd_ne h (by decide))).2⟩), (fun h => absurd hL7 (by rw [upd_ne h (by decide)]; decide))⟩
    · obtain rfl := Option.some.inj ho
      have hL7 : L 7 = false := by
        cases e : L 7
        · rfl
        · exact absurd ((f7 e).1 3 (by decide)) (by rw [hL]; decide)
      have J := I0 hL7
      refine wpOp_step rfl (fun K' hK => ?_)
      go_simp
      refine hK _ _ ?_
      exact ⟨_, _, _, _, _, _, _, rfl, (fun _ => J), (kp f0), (kp f1), (fun h => by
        obtain ⟨g2, e2, r2⟩ := f2 (upd_ne h (by decide))
        exact ⟨g2, e2, fun h5 => r2 (by rw [upd_other (by decide)] at h5; exact h5)⟩), (fun _ => rfl), (kp f4), (fun h => by
        obtain ⟨A8, c8, e8, r8⟩ := f5 (upd_ne h (by decide))
        exact ⟨A8, c8, e8, fun h7 => r8 (by rw [upd_other (by decide)] at h7; exact h7)⟩), (fun h => ⟨(f6 (upd_ne h (by decide))).1, upd_mono (f6 (upd_ne h (by decide))).2⟩), (fun h => absurd hL7 (by rw [upd_ne h (by decide)]; decide))⟩
    · obtain rfl := Option.some.inj ho
      have g3 := f3 (hd ⟨3, .data⟩ (by simp) rfl)
      subst g3
      have hL7 : L 7 = false := by
        cases e : L 7
        · rfl
        · exact absurd ((f7 e).1 4 (by decide)) (by rw [hL]; decide)
      have J := I0 hL7
      have z2 : ww.cell? ⟨q, 2, none⟩ = some (.int .i64 ob) := (J.cell (p := ⟨q, 2, none⟩) hql).trans y2
      refine wpOp_step rfl (fun K' hK => ?_)
      go_simp
      refine hK _ _ ?_
      exact ⟨_, _, _, _, _, _, _, rfl, (fun _ => J), (kp f0), (kp f1), (fun h => by
        obtain ⟨g2, e2, r2⟩ := f2 (upd_ne h (by decide))
        exact ⟨g2, e2, fun h5 => r2 (by rw [upd_other (by decide)] at h5; exact h5)⟩), (kp f3), (fun _ => rfl), (fun h => by
        obtain ⟨A8, c8, e8, r8⟩ := f5 (upd_ne h (by decide))
        exact ⟨A8, c8, e8, fun h7 => r8 (by rw [upd_other (by decide)] at h7; exact h7)⟩), (fun h => ⟨(f6 (upd_ne h (by decide))).1, upd_mono (f6 (upd_ne h (by decide))).2⟩), (fun h => absurd hL7 (by rw [upd_ne h (by decide)]; decide))⟩
    · obtain rfl := Option.some.inj ho
      have g2 := f2 (hd ⟨2, .data⟩ (by simp) rfl)
      have g4 := f4 (hd ⟨4, .data⟩ (by simp) rfl)
      subst g4
      have hL7 : L 7 = false := by
        cases e : L 7
        · rfl
        · exact absurd ((f7 e).1 5 (by decide)) (by rw [hL]; decide)
      have J := I0 hL7
      obtain ⟨g2, e2, r2⟩ := g2
      obtain ⟨hg2, hc2⟩ := r2 hL
      subst e2
      refine wpOp_step rfl (fun K' hK => ?_)
      go_simp
      refine (repeat_ones ob hb3 g2 ww hg2 hc2).mono ?_
      rintro e w' ⟨v1, rfl, o1, b5⟩
      obtain ⟨A8, c8, e8, -⟩ := o1.form
      rw [List.length_replicate] at e8
      refine hK _ _ ?_
      exact ⟨_, _, _, _, _, _, _, rfl, (fun _ => J.trans (b5.mono J.size)), (kp f0), (kp f1), (fun _ => ⟨g2, rfl, fun h => absurd h (by rw [upd_self]; decide)⟩), (kp f3), (kp f4), (fun _ => ⟨A8, c8, e8, fun _ => o1.base J.size⟩), (fun h => absurd (f6 (upd_ne h (by decide))).2 (by rw [hL]; decide)), (fun h => absurd hL7 (by rw [upd_ne h (by decide)]; decide))⟩
    · obtain rfl := Option.some.inj ho
      have g1 := f1 (hd ⟨1, .data⟩ (by simp) rfl)
      have g5 := f5 (hd ⟨5, .data⟩ (by simp) rfl)
      subst g1
      have hL7 : L 7 = false := by
        cases e : L 7
        · rfl
        · exact absurd ((f7 e).1 6 (by decide)) (by rw [hL]; decide)
      have J := I0 hL7
      have l5 := Lib.hid (hd ⟨5, .data⟩ (by simp) rfl)
      obtain ⟨A8, c8, e8, r8⟩ := g5
      subst e8
      refine wpOp_step rfl (fun K' hK => ?_)
      go_simp
      refine hK _ _ ?_
      exact ⟨_, _, _, _, _, _, _, rfl, (fun _ => J), (kp f0), (kp f1), (fun h => by
        obtain ⟨g2, e2, r2⟩ := f2 (upd_ne h (by decide))
        exact ⟨g2, e2, fun h5 => r2 (by rw [upd_other (by decide)] at h5; exact h5)⟩), (kp f3), (kp f4), (fun _ => ⟨A8, c8, rfl, fun h7 => r8 (by rw [upd_other (by decide)] at h7; exact h7)⟩), (fun _ => ⟨rfl, upd_mono l5.out⟩), (fun h => absurd hL7 (by rw [upd_ne h (by decide)]; decide))⟩
    · obtain rfl := Option.some.inj ho
      have g6 := f6 (hd ⟨6, .data⟩ (by simp) rfl)
      have lq : Hid (∀ q, q < 7 → L q = true) := Lib.hid (by
        intro q hq
        obtain rfl | rfl | rfl | rfl | rfl | rfl | rfl : q = 0 ∨ q = 1 ∨ q = 2 ∨ q = 3 ∨ q = 4 ∨ q = 5 ∨ q = 6 := by omega
        · exact hd ⟨0, .phase⟩ (by simp) rfl
        · exact hd ⟨1, .phase⟩ (by simp) rfl
        · exact hd ⟨2, .phase⟩ (by simp) rfl
        · exact hd ⟨3, .phase⟩ (by simp) rfl
        · exact hd ⟨4, .phase⟩ (by simp) rfl
        · exact hd ⟨5, .phase⟩ (by simp) rfl
        · exact hd ⟨6, .phase⟩ (by simp) rfl)
      have J := I0 hL
      obtain ⟨e9, -⟩ := g6
      subst e9
      obtain ⟨A8, c8, e8, r8⟩ := f5 (lq.out 5 (by decide))
      subst e8
      have o8 := r8 hL
      have P := Q2.keep J hrl
      have zf0 : ww.frozen? ⟨q + 1, 0, none⟩ = false := P.frozen 0
      have zf1 : ww.frozen? ⟨q + 1, 1, none⟩ = false := P.frozen 1
      have zf2 : ww.frozen? ⟨q + 1, 2, none⟩ = false := P.frozen 2
      have zc0 : ww.cell? ⟨q + 1, 0, none⟩ = some (.bool false) := P.cell 0
      have zc1 : ww.cell? ⟨q + 1, 1, none⟩ = some (.int .i64 0) := P.cell 1
      have zc2 : ww.cell? ⟨q + 1, 2, none⟩ = some (.slice none 0 0) := P.cell 2
      refine wpOp_step rfl (fun K' hK => ?_)
      go_simp
      refine hK _ _ ?_
      exact ⟨_, _, _, _, _, _, _, rfl, (fun h => absurd h (by rw [upd_self]; decide)), (kp f0), (kp f1), (fun h => by
        obtain ⟨g2, e2, r2⟩ := f2 (upd_ne h (by decide))
        exact ⟨g2, e2, fun h5 => absurd (lq.out 5 (by decide)) (by rw [upd_other (by decide)] at h5; rw [h5]; decide)⟩), (kp f3), (kp f4), (fun _ => ⟨A8, c8, rfl, fun h => absurd h (by rw [upd_self]; decide)⟩), (fun _ => ⟨rfl, upd_mono (lq.out 5 (by decide))⟩), (fun _ => ⟨fun q hq => upd_mono (lq.out q hq), ww, rfl, J, o8⟩)⟩
  case hdone =>
    rintro L ac ww hall ⟨t3, t4, t5, t6, t7, t8, t9, rfl, I0, f0, f1, f2, f3, f4, f5, f6, f7⟩
    have e0 := f0 (hall 0 (by decide))
    have e1 := f1 (hall 1 (by decide))
    have e2 := f2 (hall 2 (by decide))
    have e3 := f3 (hall 3 (by decide))
    have e4 := f4 (hall 4 (by decide))
    have e5 := f5 (hall 5 (by decide))
    have e6 := f6 (hall 6 (by decide))
    have e7 := f7 (hall 7 (by decide))
    clear f0 f1 f2 f3 f4 f5 f6 f7
    obtain ⟨-, wp, rfl, r1, r2⟩ := e7
    obtain ⟨A8, c8, rfl, -⟩ := e5
    have P := Q2.keep r1 hrl
    have P4 := ((P.put 0 (.bool true)).put 1 (.int .i64 oc)).put 2 (.slice A8 ob c8)
    have s8 : (((wp.setCell ⟨q + 1, 0, none⟩ (.bool true)).setCell ⟨q + 1, 1, none⟩ (.int .i64 oc)).setCell ⟨q + 1, 2, none⟩ (.slice A8 ob c8)).cell? ⟨q + 1, 0, none⟩ = some (.bool true) := P4.cell 0
    have s9 : (((wp.setCell ⟨q + 1, 0, none⟩ (.bool true)).setCell ⟨q + 1, 1, none⟩ (.int .i64 oc)).setCell ⟨q + 1, 2, none⟩ (.slice A8 ob c8)).cell? ⟨q + 1, 1, none⟩ = some (.int .i64 oc) := P4.cell 1
    have s10 : (((wp.setCell ⟨q + 1, 0, none⟩ (.bool true)).setCell ⟨q + 1, 1, none⟩ (.int .i64 oc)).setCell ⟨q + 1, 2, none⟩ (.slice A8 ob c8)).cell? ⟨q + 1, 2, none⟩ = some (.slice A8 ob c8) := P4.cell 2
    have BF : Below q w (((wp.setCell ⟨q + 1, 0, none⟩ (.bool true)).setCell ⟨q + 1, 1, none⟩ (.int .i64 oc)).setCell ⟨q + 1, 2, none⟩ (.slice A8 ob c8)) := (((B2.trans (r1.mono (by omega))).setCell (p := ⟨q + 1, 0, none⟩) (by show q ≤ q + 1; omega) _).setCell (p := ⟨q + 1, 1, none⟩) (by show q ≤ q + 1; omega) _).setCell (p := ⟨q + 1, 2, none⟩) (by show q ≤ q + 1; omega) _
    have ne8 : (Value.slice A8 ob c8).ownBlock = none ∨ (Value.slice A8 ob c8).ownBlock ≠ some (q + 1) := by
      cases e : (Value.slice A8 ob c8).ownBlock with
      | none => exact .inl rfl
      | some k =>
        right
        intro e'
        have := (World.ownsRow.lt r2 k e).1
        have := Option.some.inj e'
        omega
    have OF := ((r2.far (put_any wp (q + 1) 0 (.bool true)) ne8).far (put_any _ (q + 1) 1 (.int .i64 oc)) ne8).far (put_any _ (q + 1) 2 (.slice A8 ob c8)) ne8
    clear I0 e0 e1 e2 e3 e4 e6 hall r1 r2 P P4 ne8
    go_wp2_with fail
    exact bodyPost_ret (v := .agg #[.bool true, .int .i64 oc, .slice A8 ob c8]) (by simp [results, Try.results159, go_sem, *]) rfl ⟨_, rfl, OF.base (by have := HQ.out; omega), HQ.out ▸ BF⟩


set_option maxHeartbeats 4000000 in
theorem exec_new {a ob : Nat} {oc : Int} {h : Hp} (hv : Hps.validH h = true) (ha : a < 4) (hb3 : ob ≤ 3) : ExecF 142 ⟨1, a, ob, oc⟩ h := by
  intro w0 w1 b vc vr rvs S0
  have hr4 := (Hps.valid_iff.1 hv).2.2.1
  have h40 := (Hps.valid_iff.1 hv).2.1
  have ham : (a : Int) < 4 := by omega
  obtain ⟨n, hn⟩ : ∃ n, h.cs.length = n := ⟨_, rfl⟩
  have HF := Lib.hid (show Hps.doH h ⟨1, a, ob, oc⟩ h.cs.length = ⟨h.cs ++ [⟨true, oc, List.replicate ob (-1)⟩], h.rt.set a (h.cs.length : Int)⟩ by simp [Hps.doH, Hps.putCl, Hps.newCl])
  have HL := Lib.hid hr4
  have HN := Lib.hid hn
  obtain ⟨A, c, gr, d, rfl, rfl, -⟩ := S0.form (by omega)
  rw [hr4, hn] at S0
  rw [hn] at h40
  have S := S0.up ((Below.refl w1.heap.size w1).alloc (Nat.le_refl _) (.cells #[.int .i64 1, .int .i64 a, .int .i64 ob, .int .i64 oc] 36))
  have Q := Rw.new w1 36 #[.int .i64 1, .int .i64 a, .int .i64 ob, .int .i64 oc]
  have QW : w0.heap.size ≤ w1.heap.size := S0.low.size
  have QB := S0.box.lt
  have QR : gr < w1.heap.size := (S0.own.blocks (v := .slice (some ⟨gr, 0, none⟩) 4 d) (by simp) rfl).2
  clear S0 hr4 hv hn
  go_enter Try.func142, Try.ntmps142
  go_upto_region 1 with fail
  generalize w1.alloc (.cells #[.int .i64 1, .int .i64 a, .int .i64 ob, .int .i64 oc] 36) = w2 at S Q ⊢
  generalize w1.heap.size = q at Q QW QB QR ⊢
  have y1 : w2.cell? ⟨q, 1, none⟩ = some (.int .i64 a) := Q.cell 1
  have x0 : w2.cell? ⟨b, 0, none⟩ = some (.slice A n c) := S.box.cell 0
  have x1 : w2.cell? ⟨b, 1, none⟩ = some (.slice (some ⟨gr, 0, none⟩) 4 d) := S.box.cell 1
  have SS := Lib.hid S
  have QQ := Lib.hid Q
  clear S Q
  go_still_tail 12, (by kernel_rfl)
  change wpList _ _ _ _ _ w2.drew
  have S4 := SS.out.drew
  have Q4 := QQ.out.keep (Below.refl _ w2).drew QQ.out.lt
  generalize w2.drew = w4 at S4 Q4 ⊢
  obtain ⟨xo, hxo, cr⟩ := S4.own.roots.cell_at (j := a) (by omega)
  have fz : w4.frozen? ⟨gr, a, none⟩ = false := S4.own.roots.frozen HL.out a
  have S5 := S4.root (i := a) HL.out (n : Int)
  have Q5 := Q4.other (g' := gr) (i := a) (by omega) (.int .i64 (n : Int))
  clear S4 Q4 SS QQ y1 x0 x1
  go_upto_region 2 with fail
  generalize w4.setCell ⟨gr, a, none⟩ (.int .i64 (n : Int)) = w5 at S5 Q5 ⊢
  have hbl := S5.box.lt
  have hql := Q5.lt
  have x0 : w5.cell? ⟨b, 0, none⟩ = some (.slice A n c) := S5.box.cell 0
  have y0 : w5.cell? ⟨q, 0, none⟩ = some (.int .i64 1) := Q5.cell 0
  have y1 : w5.cell? ⟨q, 1, none⟩ = some (.int .i64 a) := Q5.cell 1
  have y2 : w5.cell? ⟨q, 2, none⟩ = some (.int .i64 ob) := Q5.cell 2
  have y3 : w5.cell? ⟨q, 3, none⟩ = some (.int .i64 oc) := Q5.cell 3
  have SS := Lib.hid S5
  have QQ := Lib.hid Q5
  clear S5 Q5
  refine wp_region_inv (by kernel_rfl) (by kernel_rfl) (fun L ac ww => ∃ t16 t17 t18 t19 t20 t21 t22 t23 t24 t25 t26 : Value, ac = { tmps := #[cmV { op := 1, a := ↑a, b := ↑ob, c := oc }, Value.pointer (some { block := b, off := 0 }), Value.pointer (some { block := q, off := 0 }), undef, Value.pointer (some { block := b, off := 0 }), Value.pointer (some { block := b, off := 0 }), Value.pointer (some { block := b, off := 1 }), Value.slice (some { block := gr, off := 0 }) 4 d, Value.pointer (some { block := q, off := 1 }), Value.int IntKind.i64 ↑a, Value.pointer (some { block := b, off := 0 }), Value.pointer (some { block := b, off := 0 }), Value.pointer (some { block := b, off := 0 }), Value.slice A n c, Value.int IntKind.i64 ↑n, Value.pointer (some { block := gr, off := a }), t16, t17, t18, t19, t20, t21, t22, t23, t24, t25, t26], defers := [] } ∧ (L 8 = false → Below w5.heap.size w5 ww) ∧ (Closed [(2, 1), (3, 2), (4, 3), (6, 5), (7, 6), (8, 4), (8, 6), (8, 7), (9, 0), (9, 1), (9, 2), (9, 3), (9, 4), (9, 5), (9, 6), (9, 7), (9, 8), (10, 9), (11, 10)] L) ∧ (L 0 = true → t16 = .pointer (some ⟨b, 0, none⟩)) ∧ (L 1 = true → t17 = .pointer (some ⟨b, 0, none⟩)) ∧ (L 2 = true → t18 = .pointer (some ⟨b, 0, none⟩)) ∧ (L 3 = true → t19 = .pointer (some ⟨b, 0, none⟩)) ∧ (L 4 = true → t20 = .slice A n c) ∧ (L 5 = true → t21 = cmV ⟨1, a, ob, oc⟩) ∧ (L 6 = true → ∃ v8, t22 = .agg #[.bool true, .int .i64 oc, v8] ∧ (∃ A8 c8, v8 = .slice A8 ob c8) ∧ (L 8 = false → OwnI ww w5.heap.size v8 (List.replicate ob (-1)))) ∧ (L 7 = true → (∃ g12 v8, t22 = .agg #[.bool true, .int .i64 oc, v8] ∧ t23 = .slice (some ⟨g12, 0, none⟩) 1 1 ∧ (L 8 = false → Rw ww g12 61 #[.bool true, .int .i64 oc, v8])) ∧ L 6 = true) ∧ (L 8 = true → (L 6 = true ∧ L 4 = true) ∧ ∃ A9 c9 v8, t22 = .agg #[.bool true, .int .i64 oc, v8] ∧ t24 = .slice A9 (n + 1) c9 ∧ ∃ wp w9, ww = (if L 11 = true then w9.setCell ⟨b, 0, none⟩ t24 else w9) ∧ Below w5.heap.size w5 wp ∧ OwnI wp w5.heap.size v8 (List.replicate ob (-1)) ∧ wp.grownBy w9 (Value.slice A n c).ownBlock ∧ w9.ownsRow w0.heap.size 61 3 t24 (n + 1) (flatC h.cs rvs ++ [.bool true, .int .i64 oc, v8]) ∧ (t24.ownBlock = (Value.slice A n c).ownBlock ∨ t24.ownBlock = some wp.heap.size)) ∧ (L 9 = true → t25 = .pointer (some ⟨b, 0, none⟩)) ∧ (L 10 = true → t26 = .pointer (some ⟨b, 0, none⟩)) ∧ (L 11 = true → ∀ q, q < 11 → L q = true)) ?h0 ?hstep ?hdone
  case h0 => exact ⟨_, _, _, _, _, _, _, _, _, _, _, rfl, fun _ => (Below.refl _ _).drew, fun _ _ h => absurd h Bool.false_ne_true, (fun h => absurd h Bool.false_ne_true), (fun h => absurd h Bool.false_ne_true), (fun h => absurd h Bool.false_ne_true), (fun h => absurd h Bool.false_ne_true), (fun h => absurd h Bool.false_ne_true), (fun h => absurd h Bool.false_ne_true), (fun h => absurd h Bool.false_ne_true), (fun h => absurd h Bool.false_ne_true), (fun h => absurd h Bool.false_ne_true), (fun h => absurd h Bool.false_ne_true), (fun h => absurd h Bool.false_ne_true), (fun h => absurd h Bool.false_ne_true)⟩
  case hstep =>
    rintro L ac ww i o ho hL hd ⟨t16, t17, t18, t19, t20, t21, t22, t23, t24, t25, t26, rfl, I0, I1, f0, f1, f2, f3, f4, f5, f6, f7, f8, f9, f10, f11⟩
    have hi : i < 12 := (Array.getElem?_eq_some_iff.1 ho).1
    obtain rfl | rfl | rfl | rfl | rfl | rfl | rfl | rfl | rfl | rfl | rfl | rfl : i = 0 ∨ i = 1 ∨ i = 2 ∨ i = 3 ∨ i = 4 ∨ i = 5 ∨ i = 6 ∨ i = 7 ∨ i = 8 ∨ i = 9 ∨ i = 10 ∨ i = 11 := by omega
    · obtain rfl := Option.some.inj ho
      refine wpOp_step rfl (fun K' hK => ?_)
      go_simp
      refine hK _ _ ?_
      exact ⟨_, _, _, _, _, _, _, _, _, _, _, rfl, (fun h => I0 (by rw [upd_other (by decide)] at h; exact h)), (Closed.step I1 (by
        intro p hp e
        simp only [List.mem_cons, List.not_mem_nil, or_false] at hp
        rcases hp with rfl | rfl | rfl | rfl | rfl | rfl | rfl | rfl | rfl | rfl | rfl | rfl | rfl | rfl | rfl | rfl | rfl | rfl | rfl
        · exact absurd e (by decide)
        · exact absurd e (by decide)
        · exact absurd e (by decide)
        · exact absurd e (by decide)
        · exact absurd e (by decide)
        · exact absurd e (by decide)
        · exact absurd e (by decide)
        · exact absurd e (by decide)
        · exact absurd e (by decide)
        · exact absurd e (by decide)
        · exact absurd e (by decide)
        · exact absurd e (by decide)
        · exact absurd e (by decide)
        · exact absurd e (by decide)
        · exact absurd e (by decide)
        · exact absurd e (by decide)
        · exact absurd e (by decide)
        · exact absurd e (by decide)
        · exact absurd e (by decide))), (fun _ => rfl), (kp f1), (kp f2), (kp f3), (kp f4), (kp f5), (fun h => by
        obtain ⟨v8, e22, x8, r8⟩ := f6 (upd_ne h (by decide))
        exact ⟨v8, e22, x8, fun h8 => r8 (by rw [upd_other (by decide)] at h8; exact h8)⟩), (fun h => by
        obtain ⟨⟨g12, v8, e22, e12, r12⟩, l6⟩ := f7 (upd_ne h (by decide))
        exact ⟨⟨g12, v8, e22, e12, fun h8 => r12 (by rw [upd_other (by decide)] at h8; exact h8)⟩, upd_mono l6⟩), (fun h => by
        obtain ⟨⟨l6, l4⟩, A9, c9, v8, e22, e9, wp, w9, e10, r⟩ := f8 (upd_ne h (by decide))
        exact ⟨⟨upd_mono l6, upd_mono l4⟩, A9, c9, v8, e22, e9, wp, w9, by rw [upd_other (by decide)]; exact e10, r⟩), (kp f9), (kp f10), (fun h => absurd (f11 (upd_ne h (by decide)) 0 (by decide)) (by rw [hL]; decide))⟩
    · obtain rfl := Option.some.inj ho
      have hL8 : L 8 = false := by
        cases e : L 8
        · rfl
        · exact absurd (I1.get (i := 2) (j := 1) (by decide) (I1.get (i := 3) (j := 2) (by decide) (I1.get (i := 4) (j := 3) (by decide) (I1.get (i := 8) (j := 4) (by decide) e)))) (by rw [hL]; decide)
      have J := I0 hL8
      refine wpOp_step rfl (fun K' hK => ?_)
      go_simp
      refine hK _ _ ?_
      exact ⟨_, _, _, _, _, _, _, _, _, _, _, rfl, (fun _ => J), (Closed.step I1 (by
        intro p hp e
        simp only [List.mem_cons, List.not_mem_nil, or_false] at hp
        rcases hp with rfl | rfl | rfl | rfl | rfl | rfl | rfl | rfl | rfl | rfl | rfl | rfl | rfl | rfl | rfl | rfl | rfl | rfl | rfl
        · exact absurd e (by decide)
        · exact absurd e (by decide)
        · exact absurd e (by decide)
        · exact absurd e (by decide)
        · exact absurd e (by decide)
        · exact absurd e (by decide)
        · exact absurd e (by decide)
        · exact absurd e (by decide)
        · exact absurd e (by decide)
        · exact absurd e (by decide)
        · exact absurd e (by decide)
        · exact absurd e (by decide)
        · exact absurd e (by decide)
        · exact absurd e (by decide)
        · exact absurd e (by decide)
        · exact absurd e (by decide)
        · exact absurd e (by decide)
        · exact absurd e (by decide)
        · exact absurd e (by decide))), (kp f0), (fun _ => rfl), (kp f2), (kp f3), (kp f4), (kp f5), (fun h => by
        obtain ⟨v8, e22, x8, r8⟩ := f6 (upd_ne h (by decide))
        exact ⟨v8, e22, x8, fun h8 => r8 (by rw [upd_other (by decide)] at h8; exact h8)⟩), (fun h => by
        obtain ⟨⟨g12, v8, e22, e12, r12⟩, l6⟩ := f7 (upd_ne h (by decide))
        exact ⟨⟨g12, v8, e22, e12, fun h8 => r12 (by rw [upd_other (by decide)] at h8; exact h8)⟩, upd_mono l6⟩), (fun h => absurd hL8 (by rw [upd_ne h (by decide)]; decide)), (kp f9), (kp f10), (fun h => absurd (f11 (upd_ne h (by decide)) 1 (by decide)) (by rw [hL]; decide))⟩
    · obtain rfl := Option.some.inj ho
      have g1 := f1 (hd ⟨1, .data⟩ (by simp) rfl)
      subst g1
      have hL8 : L 8 = false := by
        cases e : L 8
        · rfl
        · exact absurd (I1.get (i := 3) (j := 2) (by decide) (I1.get (i := 4) (j := 3) (by decide) (I1.get (i := 8) (j := 4) (by decide) e))) (by rw [hL]; decide)
      have J := I0 hL8
      refine wpOp_step rfl (fun K' hK => ?_)
      go_simp
      refine hK _ _ ?_
      exact ⟨_, _, _, _, _, _, _, _, _, _, _, rfl, (fun _ => J), (Closed.step I1 (by
        intro p hp e
        simp only [List.mem_cons, List.not_mem_nil, or_false] at hp
        rcases hp with rfl | rfl | rfl | rfl | rfl | rfl | rfl | rfl | rfl | rfl | rfl | rfl | rfl | rfl | rfl | rfl | rfl | rfl | rfl
        · exact hd ⟨1, .data⟩ (by simp) rfl
        · exact absurd e (by decide)
        · exact absurd e (by decide)
        · exact absurd e (by decide)
        · exact absurd e (by decide)
        · exact absurd e (by decide)
        · exact absurd e (by decide)
        · exact absurd e (by decide)
        · exact absurd e (by decide)
        · exact absurd e (by decide)
        · exact absurd e (by decide)
        · exact absurd e (by decide)
        · exact absurd e (by decide)
        · exact absurd e (by decide)
        · exact absurd e (by decide)
        · exact absurd e (by decide)
        · exact absurd e (by decide)
        · exact absurd e (by decide)
        · exact absurd e (by decide))), (kp f0), (kp f1), (fun _ => rfl), (kp f3), (kp f4), (kp f5), (fun h => by
        obtain ⟨v8, e22, x8, r8⟩ := f6 (upd_ne h (by decide))
        exact ⟨v8, e22, x8, fun h8 => r8 (by rw [upd_other (by decide)] at h8; exact h8)⟩), (fun h => by
        obtain ⟨⟨g12, v8, e22, e12, r12⟩, l6⟩ := f7 (upd_ne h (by decide))
        exact ⟨⟨g12, v8, e22, e12, fun h8 => r12 (by rw [upd_other (by decide)] at h8; exact h8)⟩, upd_mono l6⟩), (fun h => absurd hL8 (by rw [upd_ne h (by decide)]; decide)), (kp f9), (kp f10), (fun h => absurd (f11 (upd_ne h (by decide)) 2 (by decide)) (by rw [hL]; decide))⟩
    · obtain rfl := Option.some.inj ho
      have g2 := f2 (hd ⟨2, .data⟩ (by simp) rfl)
      subst g2
      have hL8 : L 8 = false := by
        cases e : L 8
        · rfl
        · exact absurd (I1.get (i := 4) (j := 3) (by decide) (I1.get (i := 8) (j := 4) (by decide) e)) (by rw [hL]; decide)
      have J := I0 hL8
      refine wpOp_step rfl (fun K' hK => ?_)
      go_simp
      refine hK _ _ ?_
      exact ⟨_, _, _, _, _, _, _, _, _, _, _, rfl, (fun _ => J), (Closed.step I1 (by
        intro p hp e
        simp only [List.mem_cons, List.not_mem_nil, or_false] at hp
        rcases hp with rfl | rfl | rfl | rfl | rfl | rfl | rfl | rfl | rfl | rfl | rfl | rfl | rfl | rfl | rfl | rfl | rfl | rfl | rfl
        · exact absurd e (by decide)
        · exact hd ⟨2, .data⟩ (by simp) rfl
        · exact absurd e (by decide)
        · exact absurd e (by decide)
        · exact absurd e (by decide)
        · exact absurd e (by decide)
        · exact absurd e (by decide)
        · exact absurd e (by decide)
        · exact absurd e (by decide)
        · exact absurd e (by decide)
        · exact absurd e (by decide)
        · exact absurd e (by decide)
        · exact absurd e (by decide)
        · exact absurd e (by decide)
        · exact absurd e (by decide)
        · exact absurd e (by decide)
        · exact absurd e (by decide)
        · exact absurd e (by decide)
        · exact absurd e (by decide))), (kp f0), (kp f1), (kp f2), (fun _ => rfl), (kp f4), (kp f5), (fun h => by
        obtain ⟨v8, e22, x8, r8⟩ := f6 (upd_ne h (by decide))
        exact ⟨v8, e22, x8, fun h8 => r8 (by rw [upd_other (by decide)] at h8; exact h8)⟩), (fun h => by
        obtain ⟨⟨g12, v8, e22, e12, r12⟩, l6⟩ := f7 (upd_ne h (by decide))
        exact ⟨⟨g12, v8, e22, e12, fun h8 => r12 (by rw [upd_other (by decide)] at h8; exact h8)⟩, upd_mono l6⟩), (fun h => absurd hL8 (by rw [upd_ne h (by decide)]; decide)), (kp f9), (kp f10), (fun h => absurd (f11 (upd_ne h (by decide)) 3 (by decide)) (by rw [hL]; decide))⟩
    · obtain rfl := Option.some.inj ho
      have g3 := f3 (hd ⟨3, .data⟩ (by simp) rfl)
      subst g3
      have hL8 : L 8 = false := by
        cases e : L 8
        · rfl
        · exact absurd (I1.get (i := 8) (j := 4) (by decide) e) (by rw [hL]; decide)
      have J := I0 hL8
      have z0 : ww.cell? ⟨b, 0, none⟩ = some (.slice A n c) := (J.cell (p := ⟨b, 0, none⟩) hbl).trans x0
      refine wpOp_step rfl (fun K' hK => ?_)
      go_simp
      refine hK _ _ ?_
      exact ⟨_, _, _, _, _, _, _, _, _, _, _, rfl, (fun _ => J), (Closed.step I1 (by
        intro p hp e
        simp only [List.mem_cons, List.not_mem_nil, or_false] at hp
        rcases hp with rfl | rfl | rfl | rfl | rfl | rfl | rfl | rfl | rfl | rfl | rfl | rfl | rfl | rfl | rfl | rfl | rfl | rfl | rfl
        · exact absurd e (by decide)
        · exact absurd e (by decide)
        · exact hd ⟨3, .data⟩ (by simp) rfl
        · exact absurd e (by decide)
        · exact absurd e (by decide)
        · exact absurd e (by decide)
        · exact absurd e (by decide)
        · exact absurd e (by decide)
        · exact absurd e (by decide)
        · exact absurd e (by decide)
        · exact absurd e (by decide)
        · exact absurd e (by decide)
        · exact absurd e (by decide)
        · exact absurd e (by decide)
        · exact absurd e (by decide)
        · exact absurd e (by decide)
        · exact absurd e (by decide)
        · exact absurd e (by decide)
        · exact absurd e (by decide))), (kp f0), (kp f1), (kp f2), (kp f3), (fun _ => rfl), (kp f5), (fun h => by
        obtain ⟨v8, e22, x8, r8⟩ := f6 (upd_ne h (by decide))
        exact ⟨v8, e22, x8, fun h8 => r8 (by rw [upd_other (by decide)] at h8; exact h8)⟩), (fun h => by
        obtain ⟨⟨g12, v8, e22, e12, r12⟩, l6⟩ := f7 (upd_ne h (by decide))
        exact ⟨⟨g12, v8, e22, e12, fun h8 => r12 (by rw [upd_other (by decide)] at h8; exact h8)⟩, upd_mono l6⟩), (fun h => absurd hL8 (by rw [upd_ne h (by decide)]; decide)), (kp f9), (kp f10), (fun h => absurd (f11 (upd_ne h (by decide)) 4 (by decide)) (by rw [hL]; decide))⟩
    · obtain rfl := Option.some.inj ho
      have hL8 : L 8 = false := by
        cases e : L 8
        · rfl
        · exact absurd (I1.get (i := 6) (j := 5) (by decide) (I1.get (i := 8) (j := 6) (by decide) e)) (by rw [hL]; decide)
      have J := I0 hL8
      have z1 : ww.cell? ⟨q, 0, none⟩ = some (.int .i64 1) := (J.cell (p := ⟨q, 0, none⟩) hql).trans y0
      have z2 : ww.cell? ⟨q, 1, none⟩ = some (.int .i64 a) := (J.cell (p := ⟨q, 1, none⟩) hql).trans y1
      have z3 : ww.cell? ⟨q, 2, none⟩ = some (.int .i64 ob) := (J.cell (p := ⟨q, 2, none⟩) hql).trans y2
      have z4 : ww.cell? ⟨q, 3, none⟩ = some (.int .i64 oc) := (J.cell (p := ⟨q, 3, none⟩) hql).trans y3
      refine wpOp_step rfl (fun K' hK => ?_)
      go_simp
      refine hK _ _ ?_
      exact ⟨_, _, _, _, _, _, _, _, _, _, _, rfl, (fun _ => J), (Closed.step I1 (by
        intro p hp e
        simp only [List.mem_cons, List.not_mem_nil, or_false] at hp
        rcases hp with rfl | rfl | rfl | rfl | rfl | rfl | rfl | rfl | rfl | rfl | rfl | rfl | rfl | rfl | rfl | rfl | rfl | rfl | rfl
        · exact absurd e (by decide)
        · exact absurd e (by decide)
        · exact absurd e (by decide)
        · exact absurd e (by decide)
        · exact absurd e (by decide)
        · exact absurd e (by decide)
        · exact absurd e (by decide)
        · exact absurd e (by decide)
        · exact absurd e (by decide)
        · exact absurd e (by decide)
        · exact absurd e (by decide)
        · exact absurd e (by decide)
        · exact absurd e (by decide)
        · exact absurd e (by decide)
        · exact absurd e (by decide)
        · exact absurd e (by decide)
        · exact absurd e (by decide)
        · exact absurd e (by decide)
        · exact absurd e (by decide))), (kp f0), (kp f1), (kp f2), (kp f3), (kp f4), (fun _ => rfl), (fun h => by
        obtain ⟨v8, e22, x8, r8⟩ := f6 (upd_ne h (by decide))
        exact ⟨v8, e22, x8, fun h8 => r8 (by rw [upd_other (by decide)] at h8; exact h8)⟩), (fun h => by
        obtain ⟨⟨g12, v8, e22, e12, r12⟩, l6⟩ := f7 (upd_ne h (by decide))
        exact ⟨⟨g12, v8, e22, e12, fun h8 => r12 (by rw [upd_other (by decide)] at h8; exact h8)⟩, upd_mono l6⟩), (fun h => absurd hL8 (by rw [upd_ne h (by decide)]; decide)), (kp f9), (kp f10), (fun h => absurd (f11 (upd_ne h (by decide)) 5 (by decide)) (by rw [hL]; decide))⟩
    · obtain rfl := Option.some.inj ho
      have g5 := f5 (hd ⟨5, .data⟩ (by simp) rfl)
      subst g5
      have hL8 : L 8 = false := by
        cases e : L 8
        · rfl
        · exact absurd (I1.get (i := 8) (j := 6) (by decide) e) (by rw [hL]; decide)
      have J := I0 hL8
      refine wpOp_step rfl (fun K' hK => ?_)
      go_simp
      refine (madeCell_any hb3 ww).mono ?_
      rintro e w' ⟨v8, rfl, o1, b5⟩
      obtain ⟨A8, c8, e8, -⟩ := o1.form
      rw [List.length_replicate] at e8
      refine hK _ _ ?_
      exact ⟨_, _, _, _, _, _, _, _, _, _, _, rfl, (fun _ => J.trans (b5.mono J.size)), (Closed.step I1 (by
        intro p hp e
        simp only [List.mem_cons, List.not_mem_nil, or_false] at hp
        rcases hp with rfl | rfl | rfl | rfl | rfl | rfl | rfl | rfl | rfl | rfl | rfl | rfl | rfl | rfl | rfl | rfl | rfl | rfl | rfl
        · exact absurd e (by decide)
        · exact absurd e (by decide)
        · exact absurd e (by decide)
        · exact hd ⟨5, .data⟩ (by simp) rfl
        · exact absurd e (by decide)
        · exact absurd e (by decide)
        · exact absurd e (by decide)
        · exact absurd e (by decide)
        · exact absurd e (by decide)
        · exact absurd e (by decide)
        · exact absurd e (by decide)
        · exact absurd e (by decide)
        · exact absurd e (by decide)
        · exact absurd e (by decide)
        · exact absurd e (by decide)
        · exact absurd e (by decide)
        · exact absurd e (by decide)
        · exact absurd e (by decide)
        · exact absurd e (by decide))), (kp f0), (kp f1), (kp f2), (kp f3), (kp f4), (kp f5), (fun _ => ⟨v8, rfl, ⟨A8, c8, e8⟩, fun _ => o1.base J.size⟩), (fun h => absurd (f7 (upd_ne h (by decide))).2 (by rw [hL]; decide)), (fun h => absurd hL8 (by rw [upd_ne h (by decide)]; decide)), (kp f9), (kp f10), (fun h => absurd (f11 (upd_ne h (by decide)) 6 (by decide)) (by rw [hL]; decide))⟩
    · obtain rfl := Option.some.inj ho
      have g6 := f6 (hd ⟨6, .data⟩ (by simp) rfl)
      have hL8 : L 8 = false := by
        cases e : L 8
        · rfl
        · exact absurd (I1.get (i := 8) (j := 7) (by decide) e) (by rw [hL]; decide)
      have J := I0 hL8
      have L6 := Lib.hid (hd ⟨6, .data⟩ (by simp) rfl)
      obtain ⟨v8, e22, ⟨A8, c8, e8⟩, r8⟩ := g6
      subst e22
      subst e8
      have b5 : Below ww.heap.size ww (ww.alloc (.cells #[.bool true, .int .i64 oc, .slice A8 ob c8] 61)) := (Below.refl _ _).alloc (Nat.le_refl _) _
      have q12 := Rw.new ww 61 #[.bool true, .int .i64 oc, .slice A8 ob c8]
      refine wpOp_step rfl (fun K' hK => ?_)
      go_simp
      refine hK _ _ ?_
      exact ⟨_, _, _, _, _, _, _, _, _, _, _, rfl, (fun _ => J.alloc J.size _), (Closed.step I1 (by
        intro p hp e
        simp only [List.mem_cons, List.not_mem_nil, or_false] at hp
        rcases hp with rfl | rfl | rfl | rfl | rfl | rfl | rfl | rfl | rfl | rfl | rfl | rfl | rfl | rfl | rfl | rfl | rfl | rfl | rfl
        · exact absurd e (by decide)
        · exact absurd e (by decide)
        · exact absurd e (by decide)
        · exact absurd e (by decide)
        · exact hd ⟨6, .data⟩ (by simp) rfl
        · exact absurd e (by decide)
        · exact absurd e (by decide)
        · exact absurd e (by decide)
        · exact absurd e (by decide)
        · exact absurd e (by decide)
        · exact absurd e (by decide)
        · exact absurd e (by decide)
        · exact absurd e (by decide)
        · exact absurd e (by decide)
        · exact absurd e (by decide)
        · exact absurd e (by decide)
        · exact absurd e (by decide)
        · exact absurd e (by decide)
        · exact absurd e (by decide))), (kp f0), (kp f1), (kp f2), (kp f3), (kp f4), (kp f5), (fun _ => ⟨_, rfl, ⟨A8, c8, rfl⟩, fun _ => (r8 hL8).below b5 (Nat.le_refl _)⟩), (fun _ => ⟨⟨_, _, rfl, rfl, fun _ => q12⟩, upd_mono L6.out⟩), (fun h => absurd hL8 (by rw [upd_ne h (by decide)]; decide)), (kp f9), (kp f10), (fun h => absurd (f11 (upd_ne h (by decide)) 7 (by decide)) (by rw [hL]; decide))⟩
    · obtain rfl := Option.some.inj ho
      have g4 := f4 (hd ⟨4, .data⟩ (by simp) rfl)
      have g7 := f7 (hd ⟨7, .data⟩ (by simp) rfl)
      subst g4
      have lq : Hid (L 6 = true ∧ L 4 = true) := Lib.hid ⟨hd ⟨6, .chain⟩ (by simp) rfl, hd ⟨4, .data⟩ (by simp) rfl⟩
      have J := I0 hL
      obtain ⟨⟨g12, v8, e22, e12, r12⟩, -⟩ := g7
      subst e12
      have q12 := r12 hL
      subst e22
      obtain ⟨v9, e23, ⟨A8, c8, e8⟩, r8⟩ := f6 lq.out.1
      have e24 : v8 = v9 := by
        injection e23 with e23
        simpa using e23
      subst e24
      subst e8
      have o8 := r8 hL
      have S6 := SS.out.up J
      have own6 : ww.ownsRow w0.heap.size 61 3 (.slice A n c) n (flatC h.cs rvs) := by
        have := S6.own.row
        rwa [HN.out] at this
      have hw0 := S6.low.size
      refine wpOp_step rfl (fun K' hK => ?_)
      refine app_stepC rfl (.tmp 20) (.tmp 23) rfl w0.heap.size _ n (flatC h.cs rvs) rfl own6 g12 true oc A8 ob c8 rfl q12 (by omega) hw0 ?_
      intro v' w' A9 c9 e9 o1 g1 s1
      subst e9
      refine hK _ _ ?_
      exact ⟨_, _, _, _, _, _, _, _, _, _, _, rfl, (fun h => absurd h (by rw [upd_self]; decide)), (Closed.step I1 (by
        intro p hp e
        simp only [List.mem_cons, List.not_mem_nil, or_false] at hp
        rcases hp with rfl | rfl | rfl | rfl | rfl | rfl | rfl | rfl | rfl | rfl | rfl | rfl | rfl | rfl | rfl | rfl | rfl | rfl | rfl
        · exact absurd e (by decide)
        · exact absurd e (by decide)
        · exact absurd e (by decide)
        · exact absurd e (by decide)
        · exact absurd e (by decide)
        · exact hd ⟨4, .data⟩ (by simp) rfl
        · exact hd ⟨6, .chain⟩ (by simp) rfl
        · exact hd ⟨7, .data⟩ (by simp) rfl
        · exact absurd e (by decide)
        · exact absurd e (by decide)
        · exact absurd e (by decide)
        · exact absurd e (by decide)
        · exact absurd e (by decide)
        · exact absurd e (by decide)
        · exact absurd e (by decide)
        · exact absurd e (by decide)
        · exact absurd e (by decide)
        · exact absurd e (by decide)
        · exact absurd e (by decide))), (kp f0), (kp f1), (kp f2), (kp f3), (kp f4), (kp f5), (fun _ => ⟨_, rfl, ⟨A8, c8, rfl⟩, fun h => absurd h (by rw [upd_self]; decide)⟩), (fun _ => ⟨⟨g12, _, rfl, rfl, fun h => absurd h (by rw [upd_self]; decide)⟩, upd_mono lq.out.1⟩), (fun _ => ⟨⟨upd_mono lq.out.1, upd_mono lq.out.2⟩, A9, c9, _, rfl, rfl, ww, w', by
        rw [upd_other (by decide)]
        cases e : L 11
        · rw [if_neg (by decide)]
        · exact absurd (f11 e 8 (by decide)) (by rw [hL]; decide), J, o8, g1, o1, s1⟩), (kp f9), (kp f10), (fun h => absurd (f11 (upd_ne h (by decide)) 8 (by decide)) (by rw [hL]; decide))⟩
    · obtain rfl := Option.some.inj ho
      have g0 := f0 (hd ⟨0, .data⟩ (by simp) rfl)
      subst g0
      refine wpOp_step rfl (fun K' hK => ?_)
      go_simp
      refine hK _ _ ?_
      exact ⟨_, _, _, _, _, _, _, _, _, _, _, rfl, (fun h => I0 (by rw [upd_other (by decide)] at h; exact h)), (Closed.step I1 (by
        intro p hp e
        simp only [List.mem_cons, List.not_mem_nil, or_false] at hp
        rcases hp with rfl | rfl | rfl | rfl | rfl | rfl | rfl | rfl | rfl | rfl | rfl | rfl | rfl | rfl | rfl | rfl | rfl | rfl | rfl
        · exact absurd e (by decide)
        · exact absurd e (by decide)
        · exact absurd e (by decide)
        · exact absurd e (by decide)
        · exact absurd e (by decide)
        · exact absurd e (by decide)
        · exact absurd e (by decide)
        · exact absurd e (by decide)
        · exact hd ⟨0, .phase⟩ (by simp) rfl
        · exact hd ⟨1, .phase⟩ (by simp) rfl
        · exact hd ⟨2, .phase⟩ (by simp) rfl
        · exact hd ⟨3, .phase⟩ (by simp) rfl
        · exact hd ⟨4, .phase⟩ (by simp) rfl
        · exact hd ⟨5, .phase⟩ (by simp) rfl
        · exact hd ⟨6, .phase⟩ (by simp) rfl
        · exact hd ⟨7, .phase⟩ (by simp) rfl
        · exact hd ⟨8, .phase⟩ (by simp) rfl
        · exact absurd e (by decide)
        · exact absurd e (by decide))), (kp f0), (kp f1), (kp f2), (kp f3), (kp f4), (kp f5), (fun h => by
        obtain ⟨v8, e22, x8, r8⟩ := f6 (upd_ne h (by decide))
        exact ⟨v8, e22, x8, fun h8 => r8 (by rw [upd_other (by decide)] at h8; exact h8)⟩), (fun h => by
        obtain ⟨⟨g12, v8, e22, e12, r12⟩, l6⟩ := f7 (upd_ne h (by decide))
        exact ⟨⟨g12, v8, e22, e12, fun h8 => r12 (by rw [upd_other (by decide)] at h8; exact h8)⟩, upd_mono l6⟩), (fun h => by
        obtain ⟨⟨l6, l4⟩, A9, c9, v8, e22, e9, wp, w9, e10, r⟩ := f8 (upd_ne h (by decide))
        exact ⟨⟨upd_mono l6, upd_mono l4⟩, A9, c9, v8, e22, e9, wp, w9, by rw [upd_other (by decide)]; exact e10, r⟩), (fun _ => rfl), (kp f10), (fun h => absurd (f11 (upd_ne h (by decide)) 9 (by decide)) (by rw [hL]; decide))⟩
    · obtain rfl := Option.some.inj ho
      have g9 := f9 (hd ⟨9, .data⟩ (by simp) rfl)
      subst g9
      refine wpOp_step rfl (fun K' hK => ?_)
      go_simp
      refine hK _ _ ?_
      exact ⟨_, _, _, _, _, _, _, _, _, _, _, rfl, (fun h => I0 (by rw [upd_other (by decide)] at h; exact h)), (Closed.step I1 (by
        intro p hp e
        simp only [List.mem_cons, List.not_mem_nil, or_false] at hp
        rcases hp with rfl | rfl | rfl | rfl | rfl | rfl | rfl | rfl | rfl | rfl | rfl | rfl | rfl | rfl | rfl | rfl | rfl | rfl | rfl
        · exact absurd e (by decide)
        · exact absurd e (by decide)
        · exact absurd e (by decide)
        · exact absurd e (by decide)
        · exact absurd e (by decide)
        · exact absurd e (by decide)
        · exact absurd e (by decide)
        · exact absurd e (by decide)
        · exact absurd e (by decide)
        · exact absurd e (by decide)
        · exact absurd e (by decide)
        · exact absurd e (by decide)
        · exact absurd e (by decide)
        · exact absurd e (by decide)
        · exact absurd e (by decide)
        · exact absurd e (by decide)
        · exact absurd e (by decide)
        · exact hd ⟨9, .data⟩ (by simp) rfl
        · exact absurd e (by decide))), (kp f0), (kp f1), (kp f2), (kp f3), (kp f4), (kp f5), (fun h => by
        obtain ⟨v8, e22, x8, r8⟩ := f6 (upd_ne h (by decide))
        exact ⟨v8, e22, x8, fun h8 => r8 (by rw [upd_other (by decide)] at h8; exact h8)⟩), (fun h => by
        obtain ⟨⟨g12, v8, e22, e12, r12⟩, l6⟩ := f7 (upd_ne h (by decide))
        exact ⟨⟨g12, v8, e22, e12, fun h8 => r12 (by rw [upd_other (by decide)] at h8; exact h8)⟩, upd_mono l6⟩), (fun h => by
        obtain ⟨⟨l6, l4⟩, A9, c9, v8, e22, e9, wp, w9, e10, r⟩ := f8 (upd_ne h (by decide))
        exact ⟨⟨upd_mono l6, upd_mono l4⟩, A9, c9, v8, e22, e9, wp, w9, by rw [upd_other (by decide)]; exact e10, r⟩), (kp f9), (fun _ => rfl), (fun h => absurd (f11 (upd_ne h (by decide)) 10 (by decide)) (by rw [hL]; decide))⟩
    · obtain rfl := Option.some.inj ho
      have g8 := f8 (hd ⟨8, .data⟩ (by simp) rfl)
      have g10 := f10 (hd ⟨10, .data⟩ (by simp) rfl)
      subst g10
      have lq : Hid (∀ q, q < 11 → L q = true) := Lib.hid (by
        intro q hq
        obtain rfl | rfl | rfl | rfl | rfl | rfl | rfl | rfl | rfl | rfl | rfl : q = 0 ∨ q = 1 ∨ q = 2 ∨ q = 3 ∨ q = 4 ∨ q = 5 ∨ q = 6 ∨ q = 7 ∨ q = 8 ∨ q = 9 ∨ q = 10 := by omega
        · exact hd ⟨0, .phase⟩ (by simp) rfl
        · exact hd ⟨1, .phase⟩ (by simp) rfl
        · exact hd ⟨2, .phase⟩ (by simp) rfl
        · exact hd ⟨3, .phase⟩ (by simp) rfl
        · exact hd ⟨4, .phase⟩ (by simp) rfl
        · exact hd ⟨5, .phase⟩ (by simp) rfl
        · exact hd ⟨6, .phase⟩ (by simp) rfl
        · exact hd ⟨7, .phase⟩ (by simp) rfl
        · exact hd ⟨8, .phase⟩ (by simp) rfl
        · exact I1.get (i := 10) (j := 9) (by decide) (hd ⟨10, .data⟩ (by simp) rfl)
        · exact hd ⟨10, .data⟩ (by simp) rfl)
      obtain ⟨ll, A9, c9, v8, e22, e9, wp, w9, e10, r1, r2, r3, r4, r5⟩ := g8
      have LL := Lib.hid ll
      clear ll
      rw [hL, if_neg (by decide)] at e10
      subst e10
      subst e9
      subst e22
      have hb9 : Rw ww b 28 #[.slice A n c, .slice (some ⟨gr, 0, none⟩) 4 d] := Rw.far (SS.out.up r1).box r3 (row_type (by have := (SS.out.up r1).own.row; rw [HN.out] at this; exact this) (SS.out.up r1).box (by decide))
      have z0 : ww.cell? ⟨b, 0, none⟩ = some (.slice A n c) := hb9.cell 0
      have zf : ww.frozen? ⟨b, 0, none⟩ = false := hb9.frozen 0
      refine wpOp_step rfl (fun K' hK => ?_)
      go_simp
      refine hK _ _ ?_
      exact ⟨_, _, _, _, _, _, _, _, _, _, _, rfl, (fun h => by
        rw [upd_other (by decide)] at h
        exact absurd (lq.out 8 (by decide)) (by rw [h]; decide)), (Closed.step I1 (by
        intro p hp e
        simp only [List.mem_cons, List.not_mem_nil, or_false] at hp
        rcases hp with rfl | rfl | rfl | rfl | rfl | rfl | rfl | rfl | rfl | rfl | rfl | rfl | rfl | rfl | rfl | rfl | rfl | rfl | rfl
        · exact absurd e (by decide)
        · exact absurd e (by decide)
        · exact absurd e (by decide)
        · exact absurd e (by decide)
        · exact absurd e (by decide)
        · exact absurd e (by decide)
        · exact absurd e (by decide)
        · exact absurd e (by decide)
        · exact absurd e (by decide)
        · exact absurd e (by decide)
        · exact absurd e (by decide)
        · exact absurd e (by decide)
        · exact absurd e (by decide)
        · exact absurd e (by decide)
        · exact absurd e (by decide)
        · exact absurd e (by decide)
        · exact absurd e (by decide)
        · exact absurd e (by decide)
        · exact hd ⟨10, .data⟩ (by simp) rfl)), (kp f0), (kp f1), (kp f2), (kp f3), (kp f4), (kp f5), (fun h => by
        obtain ⟨v9, e22, x8, r8⟩ := f6 (upd_ne h (by decide))
        exact ⟨v9, e22, x8, fun h8 => absurd (lq.out 8 (by decide)) (by rw [upd_other (by decide)] at h8; rw [h8]; decide)⟩), (fun h => by
        obtain ⟨⟨g12, v9, e22, e12, r12⟩, l6⟩ := f7 (upd_ne h (by decide))
        exact ⟨⟨g12, v9, e22, e12, fun h8 => absurd (lq.out 8 (by decide)) (by rw [upd_other (by decide)] at h8; rw [h8]; decide)⟩, upd_mono l6⟩), (fun _ => ⟨⟨upd_mono LL.out.1, upd_mono LL.out.2⟩, A9, c9, v8, rfl, rfl, wp, ww, by rw [upd_self, if_pos rfl], r1, r2, r3, r4, r5⟩), (kp f9), (kp f10), (fun _ q hq => upd_mono (lq.out q hq))⟩
  case hdone =>
    rintro L ac ww hall ⟨t16, t17, t18, t19, t20, t21, t22, t23, t24, t25, t26, rfl, I0, I1, f0, f1, f2, f3, f4, f5, f6, f7, f8, f9, f10, f11⟩
    have e0 := f0 (hall 0 (by decide))
    have e1 := f1 (hall 1 (by decide))
    have e2 := f2 (hall 2 (by decide))
    have e3 := f3 (hall 3 (by decide))
    have e4 := f4 (hall 4 (by decide))
    have e5 := f5 (hall 5 (by decide))
    have e6 := f6 (hall 6 (by decide))
    have e7 := f7 (hall 7 (by decide))
    have e8 := f8 (hall 8 (by decide))
    have e9 := f9 (hall 9 (by decide))
    have e10 := f10 (hall 10 (by decide))
    have e11 := f11 (hall 11 (by decide))
    clear f0 f1 f2 f3 f4 f5 f6 f7 f8 f9 f10 f11
    obtain ⟨-, A9, c9, v8, rfl, rfl, wp, w9, e17, r1, r2, r3, r4, r5⟩ := e8
    rw [hall 11 (by decide), if_pos rfl] at e17
    subst e17
    have SP := SS.out.up r1
    have hap : ∀ v ∈ (Value.slice A n c) :: (.slice (some ⟨gr, 0, none⟩) 4 d) :: rvs, v8.ownBlock = none ∨ v8.ownBlock ≠ v.ownBlock := fun v hv => by
      cases e : v8.ownBlock with
      | none => exact .inl rfl
      | some k =>
        right
        intro e'
        have a1 := (World.ownsRow.lt r2 k e).1
        have a2 := (SS.out.own.blocks hv e'.symm).2
        omega
    have h8b : v8.ownBlock ≠ some b := fun e => by
      have := (World.ownsRow.lt r2 b e).1
      omega
    have SF := SP.snoc (cl := ⟨true, oc, List.replicate ob (-1)⟩) (v9 := .slice A9 (n + 1) c9) (v8 := v8) r3 (by rw [HN.out]; exact r4) r5 (r2.base (by have := SS.out.low.size; omega)) hap h8b
    clear I0 I1 e0 e1 e2 e3 e4 e5 e6 e7 e9 e10 e11 hall r1 r2 r3 r4 r5 SP hap h8b x0 y0 y1 y2 y3
    go_wp2_with fail
    go_end0
    exact ⟨⟨_, rfl⟩, _, _, _, by rw [HF.out, HN.out]; exact SF⟩
end Go.Proofs.Ytmjejcfifkbkoaa
