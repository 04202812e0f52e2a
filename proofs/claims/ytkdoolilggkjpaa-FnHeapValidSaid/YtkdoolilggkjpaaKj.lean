/- What the model's CollectSweep returns: for every heap. No conditions. -/
import Derived.Test.YtkdoolilggkjpaaKi
namespace Go.Proofs.Ytkdoolilggkjpaa
open Go.RowKit
set_option maxRecDepth 100000
theorem OwnO.slices {w : World} {base : Nat} {v : Value} {xs : List Bool} (h : OwnO w base v xs) : ∃ A n c, v = .slice A n c := by
  obtain ⟨A, c, e, -⟩ := h.form
  exact ⟨A, _, c, e⟩
theorem OwnH.put {w : World} {base g : Nat} {vc vr : Value} {h : Hp} (ho : OwnH w base vc vr h) (hg : g < base) (u u' : Value) : OwnH ((w.setCell ⟨g, 0, none⟩ u).setCell ⟨g, 1, none⟩ u') base vc vr h := by
  obtain ⟨rvs, own⟩ := ho
  have ap : Apart (some g) (vc :: vr :: rvs) := own.apart_below hg
  exact ⟨rvs, (own.far (put_any w g 0 u) ap).far (put_any _ g 1 u') ap⟩
theorem OwnO.put2 {w : World} {base g : Nat} {v : Value} {xs : List Bool} (h : OwnO w base v xs) (hg : g < base) (u u' : Value) : OwnO ((w.setCell ⟨g, 0, none⟩ u).setCell ⟨g, 1, none⟩ u') base v xs := by
  have ne : v.ownBlock = none ∨ v.ownBlock ≠ some g := by
    cases e : v.ownBlock with
    | none => exact .inl rfl
    | some k => right; intro e'; injection e' with e'; have := (World.ownsRow.lt h k e).1; omega
  exact (h.far (put_any w g 0 u) ne).far (put_any _ g 1 u') ne

set_option maxRecDepth 100000 in
set_option maxHeartbeats 4000000 in
theorem mCollectSweep_any (A R : Option Addr) (n c m d : Nat) (h : Hp) (w : World) (hs : HS w w.heap.size A n R m h) (hn : n ≤ 1099511627776) (hm : m ≤ 1099511627776) :
    Calls Try.prog 65 #[heapV A n c R m d] w (GaveHN w (Hps.collectH h).1 (Hps.collectH h).2) := by
  have b2 : Below w.heap.size w ((w.alloc (.cells #[.slice A n c, .slice R m d] 26)).alloc (.cells #[.slice none 0 0, .slice none 0 0] 26)) := ((Below.refl w.heap.size w).alloc (Nat.le_refl _) _).alloc (by simp) _
  have q3 := Rw.new (w.alloc (.cells #[.slice A n c, .slice R m d] 26)) 26 #[.slice none 0 0, .slice none 0 0]
  simp only [World.size_alloc] at q3
  have q1 := (Rw.new w 26 #[.slice A n c, .slice R m d]).alloc (.cells #[.slice none 0 0, .slice none 0 0] 26)
  have hz : w.heap.size + 1 + 1 ≤ ((w.alloc (.cells #[.slice A n c, .slice R m d] 26)).alloc (.cells #[.slice none 0 0, .slice none 0 0] 26)).heap.size := by simp
  obtain ⟨rm, hrm⟩ : ∃ rm, Hps.reachH h = rm := ⟨_, rfl⟩
  obtain ⟨h2, hh2⟩ : ∃ h2, (Hps.collectH h).1 = h2 := ⟨_, rfl⟩
  obtain ⟨kk, hkk⟩ : ∃ kk, (Hps.collectH h).2 = kk := ⟨_, rfl⟩
  have hrl : rm.length ≤ 1099511627776 := by
    rw [← hrm, Hps.reachH]
    split
    · rw [Hps.reachL_len, hs.cells.1]; exact hn
    · simp
  have C1 := Lib.hid (fun (ww : World) (hh : HS ww ww.heap.size A n R m h) => by
    have := mReachable_any A R n c m d h ww hh hn hm
    rw [hrm] at this
    exact this)
  have C2 := Lib.hid (fun (ww : World) (Av : Option Addr) (nv cv : Nat) (hh : HS ww ww.heap.size A n R m h) (oo : OS ww ww.heap.size Av nv rm) => by
    have := mSweepCells_any A R Av n c m d nv cv h rm ww hh oo hn hm (by rw [← oo.1]; exact hrl)
    rw [show Hps.sweepH h rm = Hps.collectH h by rw [Hps.collectH, hrm], hh2, hkk] at this
    exact this)
  rw [hh2, hkk]
  clear hrm hh2 hkk hrl
  go_enter Try.func65, Try.ntmps65
  go_upto_region 1 with fail
  generalize (w.alloc (.cells #[.slice A n c, .slice R m d] 26)).alloc (.cells #[.slice none 0 0, .slice none 0 0] 26) = w0 at b2 q1 q3 hz ⊢
  refine wp_region_inv (by kernel_rfl) (by kernel_rfl) (fun L ac ww => ∃ t3 t4 t5 t6 t7 t8 t9 : Value, ac = { tmps := #[heapV A n c R m d, Value.pointer (some { block := w.heap.size, off := 0 }), Value.pointer (some { block := w.heap.size + 1, off := 0 }), t3, t4, t5, t6, t7, t8, t9], defers := [] } ∧ (Below (w.heap.size + 1) w0 ww) ∧ (∃ z0 z1 : Value, Rw ww (w.heap.size + 1) 26 #[z0, z1]) ∧ (L 4 = true → L 3 = true) ∧ (L 0 = true → t4 = .agg #[.slice A n c, .slice R m d]) ∧ (L 1 = true → t5 = .agg #[.slice A n c, .slice R m d]) ∧ (L 2 = true → ∃ (Av : Option Addr) (nv cv : Nat), t6 = .slice Av nv cv ∧ OwnO ww w0.heap.size (.slice Av nv cv) rm) ∧ (L 3 = true → ∃ (A5 : Option Addr) (n5 c5 : Nat) (R5 : Option Addr) (m5 d5 : Nat), t7 = .tuple #[.agg #[.slice A5 n5 c5, .slice R5 m5 d5], .int .i64 kk] ∧ OwnH ww w0.heap.size (.slice A5 n5 c5) (.slice R5 m5 d5) h2) ∧ (L 4 = true → ∃ (A5 : Option Addr) (n5 c5 : Nat) (R5 : Option Addr) (m5 d5 : Nat), t7 = .tuple #[.agg #[.slice A5 n5 c5, .slice R5 m5 d5], .int .i64 kk] ∧ t8 = .agg #[.slice A5 n5 c5, .slice R5 m5 d5]) ∧ (L 5 = true → t9 = .int .i64 kk) ∧ (L 6 = true → ∃ (A5 : Option Addr) (n5 c5 : Nat) (R5 : Option Addr) (m5 d5 : Nat), Rw ww (w.heap.size + 1) 26 #[.slice A5 n5 c5, .slice R5 m5 d5] ∧ OwnH ww w0.heap.size (.slice A5 n5 c5) (.slice R5 m5 d5) h2) ∧ (L 7 = true → t3 = .int .i64 kk)) ?h0 ?hstep ?hdone
  case h0 => exact ⟨_, _, _, _, _, _, _, rfl, (Below.refl _ _).drew, ⟨_, _, q3⟩, fun h => absurd h Bool.false_ne_true, (fun h => absurd h Bool.false_ne_true), (fun h => absurd h Bool.false_ne_true), (fun h => absurd h Bool.false_ne_true), (fun h => absurd h Bool.false_ne_true), (fun h => absurd h Bool.false_ne_true), (fun h => absurd h Bool.false_ne_true), (fun h => absurd h Bool.false_ne_true), (fun h => absurd h Bool.false_ne_true)⟩
  case hstep =>
    rintro L ac ww i o ho hL hd ⟨t3, t4, t5, t6, t7, t8, t9, rfl, I0, I1, I2, f0, f1, f2, f3, f4, f5, f6, f7⟩
    have hi : i < 8 := (Array.getElem?_eq_some_iff.1 ho).1
    obtain rfl | rfl | rfl | rfl | rfl | rfl | rfl | rfl : i = 0 ∨ i = 1 ∨ i = 2 ∨ i = 3 ∨ i = 4 ∨ i = 5 ∨ i = 6 ∨ i = 7 := by omega
    · obtain rfl := Option.some.inj ho
      have y0 : ww.cell? ⟨w.heap.size, 0, none⟩ = some (.slice A n c) := (I0.cell (p := ⟨w.heap.size, 0, none⟩) (Nat.lt_succ_self _)).trans (q1.cell 0)
      have y1 : ww.cell? ⟨w.heap.size, 1, none⟩ = some (.slice R m d) := (I0.cell (p := ⟨w.heap.size, 1, none⟩) (Nat.lt_succ_self _)).trans (q1.cell 1)
      refine wpOp_step rfl (fun K' hK => ?_)
      go_simp
      refine hK _ _ ?_
      exact ⟨_, _, _, _, _, _, _, rfl, (I0), (I1), (fun h => upd_mono (I2 (upd_ne h (by decide)))), (fun _ => rfl), (fun h => f1 (upd_ne h (by decide))), (fun h => f2 (upd_ne h (by decide))), (fun h => f3 (upd_ne h (by decide))), (fun h => f4 (upd_ne h (by decide))), (fun h => f5 (upd_ne h (by decide))), (fun h => f6 (upd_ne h (by decide))), (fun h => f7 (upd_ne h (by decide)))⟩
    · obtain rfl := Option.some.inj ho
      have y0 : ww.cell? ⟨w.heap.size, 0, none⟩ = some (.slice A n c) := (I0.cell (p := ⟨w.heap.size, 0, none⟩) (Nat.lt_succ_self _)).trans (q1.cell 0)
      have y1 : ww.cell? ⟨w.heap.size, 1, none⟩ = some (.slice R m d) := (I0.cell (p := ⟨w.heap.size, 1, none⟩) (Nat.lt_succ_self _)).trans (q1.cell 1)
      refine wpOp_step rfl (fun K' hK => ?_)
      go_simp
      refine hK _ _ ?_
      exact ⟨_, _, _, _, _, _, _, rfl, (I0), (I1), (fun h => upd_mono (I2 (upd_ne h (by decide)))), (fun h => f0 (upd_ne h (by decide))), (fun _ => rfl), (fun h => f2 (upd_ne h (by decide))), (fun h => f3 (upd_ne h (by decide))), (fun h => f4 (upd_ne h (by decide))), (fun h => f5 (upd_ne h (by decide))), (fun h => f6 (upd_ne h (by decide))), (fun h => f7 (upd_ne h (by decide)))⟩
    · obtain rfl := Option.some.inj ho
      have g1 := f1 (hd ⟨1, .data⟩ (by simp) rfl)
      subst g1
      refine wpOp_step rfl (fun K' hK => ?_)
      go_simp
      have hsw : HS ww ww.heap.size A n R m h := hs.up (b2.trans (I0.mono (Nat.le_succ _)))
      refine (C1.out ww hsw).mono ?_
      rintro e w' ⟨v1, rfl, oo, b5⟩
      obtain ⟨Av, nv, cv, rfl⟩ := oo.slices
      have hsz := I0.size
      obtain ⟨z0, z1, hz1⟩ := I1
      refine hK _ _ ?_
      exact ⟨_, _, _, _, _, _, _, rfl, (I0.trans (b5.mono (Nat.le_trans (by omega) hsz))), (⟨z0, z1, hz1.keep b5 hz1.lt⟩), (fun h => upd_mono (I2 (upd_ne h (by decide)))), (fun h => f0 (upd_ne h (by decide))), (fun h => f1 (upd_ne h (by decide))), (fun _ => ⟨_, _, _, rfl, oo.base hsz⟩), (fun h => by
        obtain ⟨A5, n5, c5, R5, m5, d5, r5, o5⟩ := f3 (upd_ne h (by decide))
        exact ⟨A5, n5, c5, R5, m5, d5, r5, o5.below b5 (Nat.le_refl _)⟩), (fun h => f4 (upd_ne h (by decide))), (fun h => f5 (upd_ne h (by decide))), (fun h => by
        obtain ⟨A5, n5, c5, R5, m5, d5, r5, o5⟩ := f6 (upd_ne h (by decide))
        exact ⟨A5, n5, c5, R5, m5, d5, r5.keep b5 r5.lt, o5.below b5 (Nat.le_refl _)⟩), (fun h => f7 (upd_ne h (by decide)))⟩
    · obtain rfl := Option.some.inj ho
      have g0 := f0 (hd ⟨0, .data⟩ (by simp) rfl)
      have g2 := f2 (hd ⟨2, .data⟩ (by simp) rfl)
      subst g0
      obtain ⟨Av, nv, cv, rfl, o2⟩ := g2
      refine wpOp_step rfl (fun K' hK => ?_)
      go_simp
      have hsw : HS ww ww.heap.size A n R m h := hs.up (b2.trans (I0.mono (Nat.le_succ _)))
      refine (C2.out ww Av nv cv hsw o2.reads).mono ?_
      rintro e w' ⟨v1, v2, rfl, oh, b5⟩
      obtain ⟨A5, n5, c5, R5, m5, d5, rfl, rfl⟩ := oh.slices
      have hsz := I0.size
      obtain ⟨z0, z1, hz1⟩ := I1
      refine hK _ _ ?_
      exact ⟨_, _, _, _, _, _, _, rfl, (I0.trans (b5.mono (Nat.le_trans (by omega) hsz))), (⟨z0, z1, hz1.keep b5 hz1.lt⟩), (fun h => upd_mono (I2 (upd_ne h (by decide)))), (fun h => f0 (upd_ne h (by decide))), (fun h => f1 (upd_ne h (by decide))), (fun h => ⟨Av, nv, cv, rfl, o2.below b5 (Nat.le_refl _)⟩), (fun _ => ⟨_, _, _, _, _, _, rfl, oh.base hsz⟩), (fun h => absurd (I2 (upd_ne h (by decide))) (by rw [hL]; simp)), (fun h => f5 (upd_ne h (by decide))), (fun h => by
        obtain ⟨A5, n5, c5, R5, m5, d5, r5, o5⟩ := f6 (upd_ne h (by decide))
        exact ⟨A5, n5, c5, R5, m5, d5, r5.keep b5 r5.lt, o5.below b5 (Nat.le_refl _)⟩), (fun h => f7 (upd_ne h (by decide)))⟩
    · obtain rfl := Option.some.inj ho
      have g3 := f3 (hd ⟨3, .data⟩ (by simp) rfl)
      obtain ⟨A5, n5, c5, R5, m5, d5, rfl, o3⟩ := g3
      refine wpOp_step rfl (fun K' hK => ?_)
      go_simp
      refine hK _ _ ?_
      exact ⟨_, _, _, _, _, _, _, rfl, (I0), (I1), (fun _ => upd_mono (hd ⟨3, .data⟩ (by simp) rfl)), (fun h => f0 (upd_ne h (by decide))), (fun h => f1 (upd_ne h (by decide))), (fun h => f2 (upd_ne h (by decide))), (fun _ => ⟨_, _, _, _, _, _, rfl, o3⟩), (fun _ => ⟨_, _, _, _, _, _, rfl, rfl⟩), (fun h => f5 (upd_ne h (by decide))), (fun h => f6 (upd_ne h (by decide))), (fun h => f7 (upd_ne h (by decide)))⟩
    · obtain rfl := Option.some.inj ho
      have g3 := f3 (hd ⟨3, .data⟩ (by simp) rfl)
      obtain ⟨A5, n5, c5, R5, m5, d5, rfl, o3⟩ := g3
      refine wpOp_step rfl (fun K' hK => ?_)
      go_simp
      refine hK _ _ ?_
      exact ⟨_, _, _, _, _, _, _, rfl, (I0), (I1), (fun h => upd_mono (I2 (upd_ne h (by decide)))), (fun h => f0 (upd_ne h (by decide))), (fun h => f1 (upd_ne h (by decide))), (fun h => f2 (upd_ne h (by decide))), (fun _ => ⟨_, _, _, _, _, _, rfl, o3⟩), (fun h => f4 (upd_ne h (by decide))), (fun _ => rfl), (fun h => f6 (upd_ne h (by decide))), (fun h => f7 (upd_ne h (by decide)))⟩
    · obtain rfl := Option.some.inj ho
      have g4 := f4 (hd ⟨4, .data⟩ (by simp) rfl)
      have g3 := f3 (hd ⟨3, .chain⟩ (by simp) rfl)
      obtain ⟨A5, n5, c5, R5, m5, d5, rfl, rfl⟩ := g4
      obtain ⟨A6, n6, c6, R6, m6, d6, e6, oo⟩ := g3
      injection e6 with e6
      simp at e6
      obtain ⟨⟨rfl, rfl, rfl⟩, rfl, rfl, rfl⟩ := e6
      obtain ⟨z0, z1, hz1⟩ := I1
      have u0 := hz1.cell 0
      have u1 := hz1.cell 1
      have u2 := hz1.frozen 0
      have u3 := hz1.frozen 1
      simp at u0 u1
      refine wpOp_step rfl (fun K' hK => ?_)
      go_simp
      refine hK _ _ ?_
      exact ⟨_, _, _, _, _, _, _, rfl, ((I0.setCell (p := ⟨w.heap.size + 1, 0, none⟩) (Nat.le_refl _) _).setCell (p := ⟨w.heap.size + 1, 1, none⟩) (Nat.le_refl _) _), (⟨_, _, (hz1.put 0 _).put 1 _⟩), (fun h => upd_mono (I2 (upd_ne h (by decide)))), (fun h => f0 (upd_ne h (by decide))), (fun h => f1 (upd_ne h (by decide))), (fun h => by
        obtain ⟨Av, nv, cv, e, o2⟩ := f2 (upd_ne h (by decide))
        exact ⟨Av, nv, cv, e, o2.put2 (by omega) _ _⟩), (fun h => ⟨_, _, _, _, _, _, rfl, oo.put (by omega) _ _⟩), (fun h => f4 (upd_ne h (by decide))), (fun h => f5 (upd_ne h (by decide))), (fun _ => ⟨_, _, _, _, _, _, (hz1.put 0 _).put 1 _, oo.put (by omega) _ _⟩), (fun h => f7 (upd_ne h (by decide)))⟩
    · obtain rfl := Option.some.inj ho
      have g5 := f5 (hd ⟨5, .data⟩ (by simp) rfl)
      subst g5
      refine wpOp_step rfl (fun K' hK => ?_)
      go_simp
      refine hK _ _ ?_
      exact ⟨_, _, _, _, _, _, _, rfl, (I0), (I1), (fun h => upd_mono (I2 (upd_ne h (by decide)))), (fun h => f0 (upd_ne h (by decide))), (fun h => f1 (upd_ne h (by decide))), (fun h => f2 (upd_ne h (by decide))), (fun h => f3 (upd_ne h (by decide))), (fun h => f4 (upd_ne h (by decide))), (fun h => f5 (upd_ne h (by decide))), (fun h => f6 (upd_ne h (by decide))), (fun _ => rfl)⟩
  case hdone =>
    rintro L ac ww hall ⟨t3, t4, t5, t6, t7, t8, t9, rfl, I0, I1, I2, f0, f1, f2, f3, f4, f5, f6, f7⟩
    have e0 := f0 (hall 0 (by decide))
    have e1 := f1 (hall 1 (by decide))
    have e2 := f2 (hall 2 (by decide))
    have e3 := f3 (hall 3 (by decide))
    have e4 := f4 (hall 4 (by decide))
    have e5 := f5 (hall 5 (by decide))
    have e6 := f6 (hall 6 (by decide))
    have e7 := f7 (hall 7 (by decide))
    clear f0 f1 f2 f3 f4 f5 f6 f7
    obtain ⟨A5, n5, c5, R5, m5, d5, r5, o5⟩ := e6
    have r6 := r5.cell 0
    have r7 := r5.cell 1
    simp at r6 r7
    have bf : Below w.heap.size w ww := b2.trans (I0.mono (Nat.le_succ _))
    have of := o5.base (base' := w.heap.size) (by omega)
    clear e0 e1 e2 e3 e4 e5 I1 I2 C1 C2 q1 q3 hs o5 r5
    go_wp2_with fail
    exact bodyPost_ret (v := .tuple #[.agg #[.slice A5 n5 c5, .slice R5 m5 d5], .int .i64 kk]) (by simp [results, Try.results65, go_sem, *]) rfl ⟨_, _, rfl, of, bf⟩
end Go.Proofs.Ytkdoolilggkjpaa
