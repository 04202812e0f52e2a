/- What the program's newCell does to a heap of the call's own. No conditions. -/
import Derived.Test.YtbcefmkgifkjiaaMh
import Derived.Test.YtbcefmkgifkjiaaMi
import Derived.Test.YtbcefmkgifkjiaaKz
import Derived.Deep.Cut
namespace Go.Proofs.Ytbcefmkgifkjiaa
open Go.RowKit
set_option maxRecDepth 100000


set_option maxHeartbeats 4000000 in
theorem exec_new {a ob : Nat} {oc : Int} {h : Hp} (hv : Hps.validH h = true) (ha : a < 4) (hb3 : ob ≤ 3) : ExecF 104 ⟨1, a, ob, oc⟩ h := by
  intro w0 w1 b vc vr rvs S0
  have hr4 := (Hps.valid_iff.1 hv).2.2.1
  have h40 := (Hps.valid_iff.1 hv).2.1
  have ham : (a : Int) < 4 := by omega
  obtain ⟨n, hn⟩ : ∃ n, h.cs.length = n := ⟨_, rfl⟩
  have HF := Lib.hid (show Hps.doH h ⟨1, a, ob, oc⟩ h.cs.length = ⟨h.cs ++ [⟨true, oc, List.replicate ob (-1)⟩], h.rt.set a (h.cs.length : Int)⟩ by simp [Hps.doH, Hps.putCl, Hps.newCl])
  have HL := Lib.hid hr4
  have HN := Lib.hid hn
  obtain ⟨A, c, gr, d, rfl, rfl, -⟩ := S0.form (by omega)
  rw [hr4, hn] at S0
  rw [hn] at h40
  have S := S0.up ((Below.refl w1.heap.size w1).alloc (Nat.le_refl _) (.cells #[.int .i64 1, .int .i64 a, .int .i64 ob, .int .i64 oc] 40))
  have Q := Rw.new w1 40 #[.int .i64 1, .int .i64 a, .int .i64 ob, .int .i64 oc]
  have QW : w0.heap.size ≤ w1.heap.size := S0.low.size
  have QB := S0.box.lt
  have QR : gr < w1.heap.size := (S0.own.blocks (v := .slice (some ⟨gr, 0, none⟩) 4 d) (by simp) rfl).2
  clear S0 hr4 hv hn
  go_enter Try.func104, Try.ntmps104
  go_upto_region 1 with fail
  generalize w1.alloc (.cells #[.int .i64 1, .int .i64 a, .int .i64 ob, .int .i64 oc] 40) = w2 at S Q ⊢
  generalize w1.heap.size = q at Q QW QB QR ⊢
  have y1 : w2.cell? ⟨q, 1, none⟩ = some (.int .i64 a) := Q.cell 1
  have x0 : w2.cell? ⟨b, 0, none⟩ = some (.slice A n c) := S.box.cell 0
  have x1 : w2.cell? ⟨b, 1, none⟩ = some (.slice (some ⟨gr, 0, none⟩) 4 d) := S.box.cell 1
  have SS := Lib.hid S
  have QQ := Lib.hid Q
  clear S Q
  go_still_tail 12, (by kernel_rfl)
  change wpList _ _ _ _ _ w2.drew
  have S4 := SS.out.drew
  have Q4 := QQ.out.keep (Below.refl _ w2).drew QQ.out.lt
  generalize w2.drew = w4 at S4 Q4 ⊢
  obtain ⟨xo, hxo, cr⟩ := S4.own.roots.cell_at (j := a) (by omega)
  have fz : w4.frozen? ⟨gr, a, none⟩ = false := S4.own.roots.frozen HL.out a
  have S5 := S4.root (i := a) HL.out (n : Int)
  have Q5 := Q4.other (g' := gr) (i := a) (by omega) (.int .i64 (n : Int))
  clear S4 Q4 SS QQ y1 x0 x1
  go_upto_region 2 with fail
  generalize w4.setCell ⟨gr, a, none⟩ (.int .i64 (n : Int)) = w5 at S5 Q5 ⊢
  have hbl := S5.box.lt
  have hql := Q5.lt
  have x0 : w5.cell? ⟨b, 0, none⟩ = some (.slice A n c) := S5.box.cell 0
  have y2 : w5.cell? ⟨q, 2, none⟩ = some (.int .i64 ob) := Q5.cell 2
  have y3 : w5.cell? ⟨q, 3, none⟩ = some (.int .i64 oc) := Q5.cell 3
  have SS := Lib.hid S5
  have QQ := Lib.hid Q5
  clear S5 Q5
  refine wp_region_inv (by kernel_rfl) (by kernel_rfl) (fun L ac ww => ∃ t16 t17 t18 t19 t20 t21 t22 t23 t24 t25 t26 t27 t28 t29 t30 t31 : Value, ac = { tmps := #[cmV { op := 1, a := ↑a, b := ↑ob, c := oc }, Value.pointer (some { block := b, off := 0 }), Value.pointer (some { block := q, off := 0 }), undef, Value.pointer (some { block := b, off := 0 }), Value.pointer (some { block := b, off := 0 }), Value.pointer (some { block := b, off := 1 }), Value.slice (some { block := gr, off := 0 }) 4 d, Value.pointer (some { block := q, off := 1 }), Value.int IntKind.i64 ↑a, Value.pointer (some { block := b, off := 0 }), Value.pointer (some { block := b, off := 0 }), Value.pointer (some { block := b, off := 0 }), Value.slice A n c, Value.int IntKind.i64 ↑n, Value.pointer (some { block := gr, off := a }), t16, t17, t18, t19, t20, t21, t22, t23, t24, t25, t26, t27, t28, t29, t30, t31], defers := [] } ∧ (L 13 = false → Below w5.heap.size w5 ww) ∧ (Closed [(2, 1), (3, 2), (4, 3), (6, 5), (9, 8), (10, 7), (10, 9), (11, 6), (11, 10), (12, 11), (13, 4), (13, 10), (13, 12), (15, 14)] L) ∧ (L 0 = true → t16 = .pointer (some ⟨b, 0, none⟩)) ∧ (L 1 = true → t17 = .pointer (some ⟨b, 0, none⟩)) ∧ (L 2 = true → t18 = .pointer (some ⟨b, 0, none⟩)) ∧ (L 3 = true → t19 = .pointer (some ⟨b, 0, none⟩)) ∧ (L 4 = true → t20 = .slice A n c) ∧ (L 5 = true → t21 = .pointer (some ⟨q, 3, none⟩)) ∧ (L 6 = true → t22 = .int .i64 oc) ∧ (L 7 = true → ∃ g7, t23 = .slice (some ⟨g7, 0, none⟩) 1 1 ∧ (L 10 = false → g7 < ww.heap.size ∧ ww.cell? ⟨g7, 0, none⟩ = some (.int .i64 (-1)))) ∧ (L 8 = true → t24 = .pointer (some ⟨q, 2, none⟩)) ∧ (L 9 = true → t25 = .int .i64 ob) ∧ (L 10 = true → ∃ A8 c8, t26 = .slice A8 ob c8 ∧ (L 13 = false → OwnI ww w5.heap.size t26 (List.replicate ob (-1)))) ∧ (L 11 = true → t27 = .agg #[.bool true, .int .i64 oc, t26] ∧ L 10 = true) ∧ (L 12 = true → (∃ g12, t28 = .slice (some ⟨g12, 0, none⟩) 1 1 ∧ (L 13 = false → Rw ww g12 70 #[.bool true, .int .i64 oc, t26])) ∧ L 10 = true) ∧ (L 13 = true → ∃ A9 c9, t29 = .slice A9 (n + 1) c9 ∧ ∃ wp w9, ww = (if L 16 = true then w9.setCell ⟨b, 0, none⟩ t29 else w9) ∧ Below w5.heap.size w5 wp ∧ OwnI wp w5.heap.size t26 (List.replicate ob (-1)) ∧ wp.grownBy w9 (Value.slice A n c).ownBlock ∧ w9.ownsRow w0.heap.size 70 3 t29 (n + 1) (flatC h.cs rvs ++ [.bool true, .int .i64 oc, t26]) ∧ (t29.ownBlock = (Value.slice A n c).ownBlock ∨ t29.ownBlock = some wp.heap.size) ∧ L 10 = true) ∧ (L 14 = true → t30 = .pointer (some ⟨b, 0, none⟩)) ∧ (L 15 = true → t31 = .pointer (some ⟨b, 0, none⟩)) ∧ (L 16 = true → ∀ q, q < 16 → L q = true)) ?h0 ?hstep ?hdone
  case h0 => exact ⟨_, _, _, _, _, _, _, _, _, _, _, _, _, _, _, _, rfl, fun _ => (Below.refl _ _).drew, fun _ _ h => absurd h Bool.false_ne_true, (fun h => absurd h Bool.false_ne_true), (fun h => absurd h Bool.false_ne_true), (fun h => absurd h Bool.false_ne_true), (fun h => absurd h Bool.false_ne_true), (fun h => absurd h Bool.false_ne_true), (fun h => absurd h Bool.false_ne_true), (fun h => absurd h Bool.false_ne_true), (fun h => absurd h Bool.false_ne_true), (fun h => absurd h Bool.false_ne_true), (fun h => absurd h Bool.false_ne_true), (fun h => absurd h Bool.false_ne_true), (fun h => absurd h Bool.false_ne_true), (fun h => absurd h Bool.false_ne_true), (fun h => absurd h Bool.false_ne_true), (fun h => absurd h Bool.false_ne_true), (fun h => absurd h Bool.false_ne_true), (fun h => absurd h Bool.false_ne_true)⟩
  case hstep =>
    rintro L ac ww i o ho hL hd ⟨t16, t17, t18, t19, t20, t21, t22, t23, t24, t25, t26, t27, t28, t29, t30, t31, rfl, I0, I1, f0, f1, f2, f3, f4, f5, f6, f7, f8, f9, f10, f11, f12, f13, f14, f15, f16⟩
    have hi : i < 17 := (Array.getElem?_eq_some_iff.1 ho).1
    obtain rfl | rfl | rfl | rfl | rfl | rfl | rfl | rfl | rfl | rfl | rfl | rfl | rfl | rfl | rfl | rfl | rfl : i = 0 ∨ i = 1 ∨ i = 2 ∨ i = 3 ∨ i = 4 ∨ i = 5 ∨ i = 6 ∨ i = 7 ∨ i = 8 ∨ i = 9 ∨ i = 10 ∨ i = 11 ∨ i = 12 ∨ i = 13 ∨ i = 14 ∨ i = 15 ∨ i = 16 := by omega
    · obtain rfl := Option.some.inj ho
      refine wpOp_step rfl (fun K' hK => ?_)
      go_simp
      refine hK _ _ ?_
      exact ⟨_, _, _, _, _, _, _, _, _, _, _, _, _, _, _, _, rfl, (fun h => I0 (by rw [upd_other (by decide)] at h; exact h)), (Closed.step I1 (by
        intro p hp e
        simp only [List.mem_cons, List.not_mem_nil, or_false] at hp
        rcases hp with rfl | rfl | rfl | rfl | rfl | rfl | rfl | rfl | rfl | rfl | rfl | rfl | rfl | rfl
        · exact absurd e (by decide)
        · exact absurd e (by decide)
        · exact absurd e (by decide)
        · exact absurd e (by decide)
        · exact absurd e (by decide)
        · exact absurd e (by decide)
        · exact absurd e (by decide)
        · exact absurd e (by decide)
        · exact absurd e (by decide)
        · exact absurd e (by decide)
        · exact absurd e (by decide)
        · exact absurd e (by decide)
        · exact absurd e (by decide)
        · exact absurd e (by decide))), (fun _ => rfl), (kp f1), (kp f2), (kp f3), (kp f4), (kp f5), (kp f6), (fun h => by
        obtain ⟨g7, e7, r7⟩ := f7 (upd_ne h (by decide))
        exact ⟨g7, e7, fun h10 => r7 (by rw [upd_other (by decide)] at h10; exact h10)⟩), (kp f8), (kp f9), (fun h => by
        obtain ⟨A8, c8, e8, r8⟩ := f10 (upd_ne h (by decide))
        exact ⟨A8, c8, e8, fun h13 => r8 (by rw [upd_other (by decide)] at h13; exact h13)⟩), (fun h => ⟨(f11 (upd_ne h (by decide))).1, upd_mono (f11 (upd_ne h (by decide))).2⟩), (fun h => by
        obtain ⟨⟨g12, e12, r12⟩, l12⟩ := f12 (upd_ne h (by decide))
        exact ⟨⟨g12, e12, fun h13 => r12 (by rw [upd_other (by decide)] at h13; exact h13)⟩, upd_mono l12⟩), (fun h => by
        obtain ⟨A9, c9, e9, wp, w9, e10, r1, r2, r3, r4, r5, r6⟩ := f13 (upd_ne h (by decide))
        exact ⟨A9, c9, e9, wp, w9, by rw [upd_other (by decide)]; exact e10, r1, r2, r3, r4, r5, upd_mono r6⟩), (kp f14), (kp f15), (fun h => absurd (f16 (upd_ne h (by decide)) 0 (by decide)) (by rw [hL]; decide))⟩
    · obtain rfl := Option.some.inj ho
      have hL13 : L 13 = false := by
        cases e : L 13
        · rfl
        · exact absurd (I1.get (i := 2) (j := 1) (by decide) (I1.get (i := 3) (j := 2) (by decide) (I1.get (i := 4) (j := 3) (by decide) (I1.get (i := 13) (j := 4) (by decide) e)))) (by rw [hL]; decide)
      have J := I0 hL13
      refine wpOp_step rfl (fun K' hK => ?_)
      go_simp
      refine hK _ _ ?_
      exact ⟨_, _, _, _, _, _, _, _, _, _, _, _, _, _, _, _, rfl, (fun _ => J), (Closed.step I1 (by
        intro p hp e
        simp only [List.mem_cons, List.not_mem_nil, or_false] at hp
        rcases hp with rfl | rfl | rfl | rfl | rfl | rfl | rfl | rfl | rfl | rfl | rfl | rfl | rfl | rfl
        · exact absurd e (by decide)
        · exact absurd e (by decide)
        · exact absurd e (by decide)
        · exact absurd e (by decide)
        · exact absurd e (by decide)
        · exact absurd e (by decide)
        · exact absurd e (by decide)
        · exact absurd e (by decide)
        · exact absurd e (by decide)
        · exact absurd e (by decide)
        · exact absurd e (by decide)
        · exact absurd e (by decide)
        · exact absurd e (by decide)
        · exact absurd e (by decide))), (kp f0), (fun _ => rfl), (kp f2), (kp f3), (kp f4), (kp f5), (kp f6), (fun h => by
        obtain ⟨g7, e7, r7⟩ := f7 (upd_ne h (by decide))
        exact ⟨g7, e7, fun h10 => r7 (by rw [upd_other (by decide)] at h10; exact h10)⟩), (kp f8), (kp f9), (fun h => by
        obtain ⟨A8, c8, e8, r8⟩ := f10 (upd_ne h (by decide))
        exact ⟨A8, c8, e8, fun h13 => r8 (by rw [upd_other (by decide)] at h13; exact h13)⟩), (fun h => ⟨(f11 (upd_ne h (by decide))).1, upd_mono (f11 (upd_ne h (by decide))).2⟩), (fun h => by
        obtain ⟨⟨g12, e12, r12⟩, l12⟩ := f12 (upd_ne h (by decide))
        exact ⟨⟨g12, e12, fun h13 => r12 (by rw [upd_other (by decide)] at h13; exact h13)⟩, upd_mono l12⟩), (fun h => absurd (I1.get (i := 2) (j := 1) (by decide) (I1.get (i := 3) (j := 2) (by decide) (I1.get (i := 4) (j := 3) (by decide) (I1.get (i := 13) (j := 4) (by decide) (upd_ne h (by decide)))))) (by rw [hL]; decide)), (kp f14), (kp f15), (fun h => absurd (f16 (upd_ne h (by decide)) 1 (by decide)) (by rw [hL]; decide))⟩
    · obtain rfl := Option.some.inj ho
      have g1 := f1 (hd ⟨1, .data⟩ (by simp) rfl)
      subst g1
      have hL13 : L 13 = false := by
        cases e : L 13
        · rfl
        · exact absurd (I1.get (i := 3) (j := 2) (by decide) (I1.get (i := 4) (j := 3) (by decide) (I1.get (i := 13) (j := 4) (by decide) e))) (by rw [hL]; decide)
      have J := I0 hL13
      refine wpOp_step rfl (fun K' hK => ?_)
      go_simp
      refine hK _ _ ?_
      exact ⟨_, _, _, _, _, _, _, _, _, _, _, _, _, _, _, _, rfl, (fun _ => J), (Closed.step I1 (by
        intro p hp e
        simp only [List.mem_cons, List.not_mem_nil, or_false] at hp
        rcases hp with rfl | rfl | rfl | rfl | rfl | rfl | rfl | rfl | rfl | rfl | rfl | rfl | rfl | rfl
        · exact hd ⟨1, .data⟩ (by simp) rfl
        · exact absurd e (by decide)
        · exact absurd e (by decide)
        · exact absurd e (by decide)
        · exact absurd e (by decide)
        · exact absurd e (by decide)
        · exact absurd e (by decide)
        · exact absurd e (by decide)
        · exact absurd e (by decide)
        · exact absurd e (by decide)
        · exact absurd e (by decide)
        · exact absurd e (by decide)
        · exact absurd e (by decide)
        · exact absurd e (by decide))), (kp f0), (kp f1), (fun _ => rfl), (kp f3), (kp f4), (kp f5), (kp f6), (fun h => by
        obtain ⟨g7, e7, r7⟩ := f7 (upd_ne h (by decide))
        exact ⟨g7, e7, fun h10 => r7 (by rw [upd_other (by decide)] at h10; exact h10)⟩), (kp f8), (kp f9), (fun h => by
        obtain ⟨A8, c8, e8, r8⟩ := f10 (upd_ne h (by decide))
        exact ⟨A8, c8, e8, fun h13 => r8 (by rw [upd_other (by decide)] at h13; exact h13)⟩), (fun h => ⟨(f11 (upd_ne h (by decide))).1, upd_mono (f11 (upd_ne h (by decide))).2⟩), (fun h => by
        obtain ⟨⟨g12, e12, r12⟩, l12⟩ := f12 (upd_ne h (by decide))
        exact ⟨⟨g12, e12, fun h13 => r12 (by rw [upd_other (by decide)] at h13; exact h13)⟩, upd_mono l12⟩), (fun h => absurd (I1.get (i := 3) (j := 2) (by decide) (I1.get (i := 4) (j := 3) (by decide) (I1.get (i := 13) (j := 4) (by decide) (upd_ne h (by decide))))) (by rw [hL]; decide)), (kp f14), (kp f15), (fun h => absurd (f16 (upd_ne h (by decide)) 2 (by decide)) (by rw [hL]; decide))⟩
    · obtain rfl := Option.some.inj ho
      have g2 := f2 (hd ⟨2, .data⟩ (by simp) rfl)
      subst g2
      have hL13 : L 13 = false := by
        cases e : L 13
        · rfl
        · exact absurd (I1.get (i := 4) (j := 3) (by decide) (I1.get (i := 13) (j := 4) (by decide) e)) (by rw [hL]; decide)
      have J := I0 hL13
      refine wpOp_step rfl (fun K' hK => ?_)
      go_simp
      refine hK _ _ ?_
      exact ⟨_, _, _, _, _, _, _, _, _, _, _, _, _, _, _, _, rfl, (fun _ => J), (Closed.step I1 (by
        intro p hp e
        simp only [List.mem_cons, List.not_mem_nil, or_false] at hp
        rcases hp with rfl | rfl | rfl | rfl | rfl | rfl | rfl | rfl | rfl | rfl | rfl | rfl | rfl | rfl
        · exact absurd e (by decide)
        · exact hd ⟨2, .data⟩ (by simp) rfl
        · exact absurd e (by decide)
        · exact absurd e (by decide)
        · exact absurd e (by decide)
        · exact absurd e (by decide)
        · exact absurd e (by decide)
        · exact absurd e (by decide)
        · exact absurd e (by decide)
        · exact absurd e (by decide)
        · exact absurd e (by decide)
        · exact absurd e (by decide)
        · exact absurd e (by decide)
        · exact absurd e (by decide))), (kp f0), (kp f1), (kp f2), (fun _ => rfl), (kp f4), (kp f5), (kp f6), (fun h => by
        obtain ⟨g7, e7, r7⟩ := f7 (upd_ne h (by decide))
        exact ⟨g7, e7, fun h10 => r7 (by rw [upd_other (by decide)] at h10; exact h10)⟩), (kp f8), (kp f9), (fun h => by
        obtain ⟨A8, c8, e8, r8⟩ := f10 (upd_ne h (by decide))
        exact ⟨A8, c8, e8, fun h13 => r8 (by rw [upd_other (by decide)] at h13; exact h13)⟩), (fun h => ⟨(f11 (upd_ne h (by decide))).1, upd_mono (f11 (upd_ne h (by decide))).2⟩), (fun h => by
        obtain ⟨⟨g12, e12, r12⟩, l12⟩ := f12 (upd_ne h (by decide))
        exact ⟨⟨g12, e12, fun h13 => r12 (by rw [upd_other (by decide)] at h13; exact h13)⟩, upd_mono l12⟩), (fun h => absurd (I1.get (i := 4) (j := 3) (by decide) (I1.get (i := 13) (j := 4) (by decide) (upd_ne h (by decide)))) (by rw [hL]; decide)), (kp f14), (kp f15), (fun h => absurd (f16 (upd_ne h (by decide)) 3 (by decide)) (by rw [hL]; decide))⟩
    · obtain rfl := Option.some.inj ho
      have g3 := f3 (hd ⟨3, .data⟩ (by simp) rfl)
      subst g3
      have hL13 : L 13 = false := by
        cases e : L 13
        · rfl
        · exact absurd (I1.get (i := 13) (j := 4) (by decide) e) (by rw [hL]; decide)
      have J := I0 hL13
      have z0 : ww.cell? ⟨b, 0, none⟩ = some (.slice A n c) := (J.cell (p := ⟨b, 0, none⟩) hbl).trans x0
      refine wpOp_step rfl (fun K' hK => ?_)
      go_simp
      refine hK _ _ ?_
      exact ⟨_, _, _, _, _, _, _, _, _, _, _, _, _, _, _, _, rfl, (fun _ => J), (Closed.step I1 (by
        intro p hp e
        simp only [List.mem_cons, List.not_mem_nil, or_false] at hp
        rcases hp with rfl | rfl | rfl | rfl | rfl | rfl | rfl | rfl | rfl | rfl | rfl | rfl | rfl | rfl
        · exact absurd e (by decide)
        · exact absurd e (by decide)
        · exact hd ⟨3, .data⟩ (by simp) rfl
        · exact absurd e (by decide)
        · exact absurd e (by decide)
        · exact absurd e (by decide)
        · exact absurd e (by decide)
        · exact absurd e (by decide)
        · exact absurd e (by decide)
        · exact absurd e (by decide)
        · exact absurd e (by decide)
        · exact absurd e (by decide)
        · exact absurd e (by decide)
        · exact absurd e (by decide))), (kp f0), (kp f1), (kp f2), (kp f3), (fun _ => rfl), (kp f5), (kp f6), (fun h => by
        obtain ⟨g7, e7, r7⟩ := f7 (upd_ne h (by decide))
        exact ⟨g7, e7, fun h10 => r7 (by rw [upd_other (by decide)] at h10; exact h10)⟩), (kp f8), (kp f9), (fun h => by
        obtain ⟨A8, c8, e8, r8⟩ := f10 (upd_ne h (by decide))
        exact ⟨A8, c8, e8, fun h13 => r8 (by rw [upd_other (by decide)] at h13; exact h13)⟩), (fun h => ⟨(f11 (upd_ne h (by decide))).1, upd_mono (f11 (upd_ne h (by decide))).2⟩), (fun h => by
        obtain ⟨⟨g12, e12, r12⟩, l12⟩ := f12 (upd_ne h (by decide))
        exact ⟨⟨g12, e12, fun h13 => r12 (by rw [upd_other (by decide)] at h13; exact h13)⟩, upd_mono l12⟩), (fun h => absurd (I1.get (i := 13) (j := 4) (by decide) (upd_ne h (by decide))) (by rw [hL]; decide)), (kp f14), (kp f15), (fun h => absurd (f16 (upd_ne h (by decide)) 4 (by decide)) (by rw [hL]; decide))⟩
    · obtain rfl := Option.some.inj ho
      have hL13 : L 13 = false := by
        cases e : L 13
        · rfl
        · exact absurd (I1.get (i := 6) (j := 5) (by decide) (I1.get (i := 11) (j := 6) (by decide) (I1.get (i := 12) (j := 11) (by decide) (I1.get (i := 13) (j := 12) (by decide) e)))) (by rw [hL]; decide)
      have J := I0 hL13
      refine wpOp_step rfl (fun K' hK => ?_)
      go_simp
      refine hK _ _ ?_
      exact ⟨_, _, _, _, _, _, _, _, _, _, _, _, _, _, _, _, rfl, (fun _ => J), (Closed.step I1 (by
        intro p hp e
        simp only [List.mem_cons, List.not_mem_nil, or_false] at hp
        rcases hp with rfl | rfl | rfl | rfl | rfl | rfl | rfl | rfl | rfl | rfl | rfl | rfl | rfl | rfl
        · exact absurd e (by decide)
        · exact absurd e (by decide)
        · exact absurd e (by decide)
        · exact absurd e (by decide)
        · exact absurd e (by decide)
        · exact absurd e (by decide)
        · exact absurd e (by decide)
        · exact absurd e (by decide)
        · exact absurd e (by decide)
        · exact absurd e (by decide)
        · exact absurd e (by decide)
        · exact absurd e (by decide)
        · exact absurd e (by decide)
        · exact absurd e (by decide))), (kp f0), (kp f1), (kp f2), (kp f3), (kp f4), (fun _ => rfl), (kp f6), (fun h => by
        obtain ⟨g7, e7, r7⟩ := f7 (upd_ne h (by decide))
        exact ⟨g7, e7, fun h10 => r7 (by rw [upd_other (by decide)] at h10; exact h10)⟩), (kp f8), (kp f9), (fun h => by
        obtain ⟨A8, c8, e8, r8⟩ := f10 (upd_ne h (by decide))
        exact ⟨A8, c8, e8, fun h13 => r8 (by rw [upd_other (by decide)] at h13; exact h13)⟩), (fun h => ⟨(f11 (upd_ne h (by decide))).1, upd_mono (f11 (upd_ne h (by decide))).2⟩), (fun h => by
        obtain ⟨⟨g12, e12, r12⟩, l12⟩ := f12 (upd_ne h (by decide))
        exact ⟨⟨g12, e12, fun h13 => r12 (by rw [upd_other (by decide)] at h13; exact h13)⟩, upd_mono l12⟩), (fun h => absurd (I1.get (i := 6) (j := 5) (by decide) (I1.get (i := 11) (j := 6) (by decide) (I1.get (i := 12) (j := 11) (by decide) (I1.get (i := 13) (j := 12) (by decide) (upd_ne h (by decide)))))) (by rw [hL]; decide)), (kp f14), (kp f15), (fun h => absurd (f16 (upd_ne h (by decide)) 5 (by decide)) (by rw [hL]; decide))⟩
    · obtain rfl := Option.some.inj ho
      have g5 := f5 (hd ⟨5, .data⟩ (by simp) rfl)
      subst g5
      have hL13 : L 13 = false := by
        cases e : L 13
        · rfl
        · exact absurd (I1.get (i := 11) (j := 6) (by decide) (I1.get (i := 12) (j := 11) (by decide) (I1.get (i := 13) (j := 12) (by decide) e))) (by rw [hL]; decide)
      have J := I0 hL13
      have z3 : ww.cell? ⟨q, 3, none⟩ = some (.int .i64 oc) := (J.cell (p := ⟨q, 3, none⟩) hql).trans y3
      refine wpOp_step rfl (fun K' hK => ?_)
      go_simp
      refine hK _ _ ?_
      exact ⟨_, _, _, _, _, _, _, _, _, _, _, _, _, _, _, _, rfl, (fun _ => J), (Closed.step I1 (by
        intro p hp e
        simp only [List.mem_cons, List.not_mem_nil, or_false] at hp
        rcases hp with rfl | rfl | rfl | rfl | rfl | rfl | rfl | rfl | rfl | rfl | rfl | rfl | rfl | rfl
        · exact absurd e (by decide)
        · exact absurd e (by decide)
        · exact absurd e (by decide)
        · exact hd ⟨5, .data⟩ (by simp) rfl
        · exact absurd e (by decide)
        · exact absurd e (by decide)
        · exact absurd e (by decide)
        · exact absurd e (by decide)
        · exact absurd e (by decide)
        · exact absurd e (by decide)
        · exact absurd e (by decide)
        · exact absurd e (by decide)
        · exact absurd e (by decide)
        · exact absurd e (by decide))), (kp f0), (kp f1), (kp f2), (kp f3), (kp f4), (kp f5), (fun _ => rfl), (fun h => by
        obtain ⟨g7, e7, r7⟩ := f7 (upd_ne h (by decide))
        exact ⟨g7, e7, fun h10 => r7 (by rw [upd_other (by decide)] at h10; exact h10)⟩), (kp f8), (kp f9), (fun h => by
        obtain ⟨A8, c8, e8, r8⟩ := f10 (upd_ne h (by decide))
        exact ⟨A8, c8, e8, fun h13 => r8 (by rw [upd_other (by decide)] at h13; exact h13)⟩), (fun h => ⟨(f11 (upd_ne h (by decide))).1, upd_mono (f11 (upd_ne h (by decide))).2⟩), (fun h => by
        obtain ⟨⟨g12, e12, r12⟩, l12⟩ := f12 (upd_ne h (by decide))
        exact ⟨⟨g12, e12, fun h13 => r12 (by rw [upd_other (by decide)] at h13; exact h13)⟩, upd_mono l12⟩), (fun h => absurd (I1.get (i := 11) (j := 6) (by decide) (I1.get (i := 12) (j := 11) (by decide) (I1.get (i := 13) (j := 12) (by decide) (upd_ne h (by decide))))) (by rw [hL]; decide)), (kp f14), (kp f15), (fun h => absurd (f16 (upd_ne h (by decide)) 6 (by decide)) (by rw [hL]; decide))⟩
    · obtain rfl := Option.some.inj ho
      have hL13 : L 13 = false := by
        cases e : L 13
        · rfl
        · exact absurd (I1.get (i := 10) (j := 7) (by decide) (I1.get (i := 13) (j := 10) (by decide) e)) (by rw [hL]; decide)
      have J := I0 hL13
      have b5 : Below ww.heap.size ww (ww.alloc (.cells #[.int .i64 (-1)] 3)) := (Below.refl _ _).alloc (Nat.le_refl _) _
      have c7 := (Rw.new ww 3 #[.int .i64 (-1)]).cell 0
      refine wpOp_step rfl (fun K' hK => ?_)
      go_simp
      refine hK _ _ ?_
      exact ⟨_, _, _, _, _, _, _, _, _, _, _, _, _, _, _, _, rfl, (fun _ => J.alloc J.size _), (Closed.step I1 (by
        intro p hp e
        simp only [List.mem_cons, List.not_mem_nil, or_false] at hp
        rcases hp with rfl | rfl | rfl | rfl | rfl | rfl | rfl | rfl | rfl | rfl | rfl | rfl | rfl | rfl
        · exact absurd e (by decide)
        · exact absurd e (by decide)
        · exact absurd e (by decide)
        · exact absurd e (by decide)
        · exact absurd e (by decide)
        · exact absurd e (by decide)
        · exact absurd e (by decide)
        · exact absurd e (by decide)
        · exact absurd e (by decide)
        · exact absurd e (by decide)
        · exact absurd e (by decide)
        · exact absurd e (by decide)
        · exact absurd e (by decide)
        · exact absurd e (by decide))), (kp f0), (kp f1), (kp f2), (kp f3), (kp f4), (kp f5), (kp f6), (fun _ => ⟨_, rfl, fun _ => ⟨by simp, c7⟩⟩), (kp f8), (kp f9), (fun h => by
        obtain ⟨A8, c8, e8, r8⟩ := f10 (upd_ne h (by decide))
        exact ⟨A8, c8, e8, fun h13 => (r8 hL13).below b5 (Nat.le_refl _)⟩), (fun h => ⟨(f11 (upd_ne h (by decide))).1, upd_mono (f11 (upd_ne h (by decide))).2⟩), (fun h => by
        obtain ⟨⟨g12, e12, r12⟩, l12⟩ := f12 (upd_ne h (by decide))
        exact ⟨⟨g12, e12, fun _ => (r12 hL13).keep b5 (r12 hL13).lt⟩, upd_mono l12⟩), (fun h => absurd (I1.get (i := 10) (j := 7) (by decide) (I1.get (i := 13) (j := 10) (by decide) (upd_ne h (by decide)))) (by rw [hL]; decide)), (kp f14), (kp f15), (fun h => absurd (f16 (upd_ne h (by decide)) 7 (by decide)) (by rw [hL]; decide))⟩
    · obtain rfl := Option.some.inj ho
      have hL13 : L 13 = false := by
        cases e : L 13
        · rfl
        · exact absurd (I1.get (i := 9) (j := 8) (by decide) (I1.get (i := 10) (j := 9) (by decide) (I1.get (i := 13) (j := 10) (by decide) e))) (by rw [hL]; decide)
      have J := I0 hL13
      refine wpOp_step rfl (fun K' hK => ?_)
      go_simp
      refine hK _ _ ?_
      exact ⟨_, _, _, _, _, _, _, _, _, _, _, _, _, _, _, _, rfl, (fun _ => J), (Closed.step I1 (by
        intro p hp e
        simp only [List.mem_cons, List.not_mem_nil, or_false] at hp
        rcases hp with rfl | rfl | rfl | rfl | rfl | rfl | rfl | rfl | rfl | rfl | rfl | rfl | rfl | rfl
        · exact absurd e (by decide)
        · exact absurd e (by decide)
        · exact absurd e (by decide)
        · exact absurd e (by decide)
        · exact absurd e (by decide)
        · exact absurd e (by decide)
        · exact absurd e (by decide)
        · exact absurd e (by decide)
        · exact absurd e (by decide)
        · exact absurd e (by decide)
        · exact absurd e (by decide)
        · exact absurd e (by decide)
        · exact absurd e (by decide)
        · exact absurd e (by decide))), (kp f0), (kp f1), (kp f2), (kp f3), (kp f4), (kp f5), (kp f6), (fun h => by
        obtain ⟨g7, e7, r7⟩ := f7 (upd_ne h (by decide))
        exact ⟨g7, e7, fun h10 => r7 (by rw [upd_other (by decide)] at h10; exact h10)⟩), (fun _ => rfl), (kp f9), (fun h => by
        obtain ⟨A8, c8, e8, r8⟩ := f10 (upd_ne h (by decide))
        exact ⟨A8, c8, e8, fun h13 => r8 (by rw [upd_other (by decide)] at h13; exact h13)⟩), (fun h => ⟨(f11 (upd_ne h (by decide))).1, upd_mono (f11 (upd_ne h (by decide))).2⟩), (fun h => by
        obtain ⟨⟨g12, e12, r12⟩, l12⟩ := f12 (upd_ne h (by decide))
        exact ⟨⟨g12, e12, fun h13 => r12 (by rw [upd_other (by decide)] at h13; exact h13)⟩, upd_mono l12⟩), (fun h => absurd (I1.get (i := 9) (j := 8) (by decide) (I1.get (i := 10) (j := 9) (by decide) (I1.get (i := 13) (j := 10) (by decide) (upd_ne h (by decide))))) (by rw [hL]; decide)), (kp f14), (kp f15), (fun h => absurd (f16 (upd_ne h (by decide)) 8 (by decide)) (by rw [hL]; decide))⟩
    · obtain rfl := Option.some.inj ho
      have g8 := f8 (hd ⟨8, .data⟩ (by simp) rfl)
      subst g8
      have hL13 : L 13 = false := by
        cases e : L 13
        · rfl
        · exact absurd (I1.get (i := 10) (j := 9) (by decide) (I1.get (i := 13) (j := 10) (by decide) e)) (by rw [hL]; decide)
      have J := I0 hL13
      have z2 : ww.cell? ⟨q, 2, none⟩ = some (.int .i64 ob) := (J.cell (p := ⟨q, 2, none⟩) hql).trans y2
      refine wpOp_step rfl (fun K' hK => ?_)
      go_simp
      refine hK _ _ ?_
      exact ⟨_, _, _, _, _, _, _, _, _, _, _, _, _, _, _, _, rfl, (fun _ => J), (Closed.step I1 (by
        intro p hp e
        simp only [List.mem_cons, List.not_mem_nil, or_false] at hp
        rcases hp with rfl | rfl | rfl | rfl | rfl | rfl | rfl | rfl | rfl | rfl | rfl | rfl | rfl | rfl
        · exact absurd e (by decide)
        · exact absurd e (by decide)
        · exact absurd e (by decide)
        · exact absurd e (by decide)
        · exact hd ⟨8, .data⟩ (by simp) rfl
        · exact absurd e (by decide)
        · exact absurd e (by decide)
        · exact absurd e (by decide)
        · exact absurd e (by decide)
        · exact absurd e (by decide)
        · exact absurd e (by decide)
        · exact absurd e (by decide)
        · exact absurd e (by decide)
        · exact absurd e (by decide))), (kp f0), (kp f1), (kp f2), (kp f3), (kp f4), (kp f5), (kp f6), (fun h => by
        obtain ⟨g7, e7, r7⟩ := f7 (upd_ne h (by decide))
        exact ⟨g7, e7, fun h10 => r7 (by rw [upd_other (by decide)] at h10; exact h10)⟩), (kp f8), (fun _ => rfl), (fun h => by
        obtain ⟨A8, c8, e8, r8⟩ := f10 (upd_ne h (by decide))
        exact ⟨A8, c8, e8, fun h13 => r8 (by rw [upd_other (by decide)] at h13; exact h13)⟩), (fun h => ⟨(f11 (upd_ne h (by decide))).1, upd_mono (f11 (upd_ne h (by decide))).2⟩), (fun h => by
        obtain ⟨⟨g12, e12, r12⟩, l12⟩ := f12 (upd_ne h (by decide))
        exact ⟨⟨g12, e12, fun h13 => r12 (by rw [upd_other (by decide)] at h13; exact h13)⟩, upd_mono l12⟩), (fun h => absurd (I1.get (i := 10) (j := 9) (by decide) (I1.get (i := 13) (j := 10) (by decide) (upd_ne h (by decide)))) (by rw [hL]; decide)), (kp f14), (kp f15), (fun h => absurd (f16 (upd_ne h (by decide)) 9 (by decide)) (by rw [hL]; decide))⟩
    · obtain rfl := Option.some.inj ho
      have g7 := f7 (hd ⟨7, .data⟩ (by simp) rfl)
      have g9 := f9 (hd ⟨9, .data⟩ (by simp) rfl)
      subst g9
      have hL13 : L 13 = false := by
        cases e : L 13
        · rfl
        · exact absurd (I1.get (i := 13) (j := 10) (by decide) e) (by rw [hL]; decide)
      have J := I0 hL13
      obtain ⟨g7, e7, r7⟩ := g7
      obtain ⟨hg7, hc7⟩ := r7 hL
      subst e7
      refine wpOp_step rfl (fun K' hK => ?_)
      go_simp
      refine (repeat_ones ob hb3 g7 ww hg7 hc7).mono ?_
      rintro e w' ⟨v1, rfl, o1, b5⟩
      obtain ⟨A8, c8, e8, -⟩ := o1.form
      rw [List.length_replicate] at e8
      refine hK _ _ ?_
      exact ⟨_, _, _, _, _, _, _, _, _, _, _, _, _, _, _, _, rfl, (fun _ => J.trans (b5.mono J.size)), (Closed.step I1 (by
        intro p hp e
        simp only [List.mem_cons, List.not_mem_nil, or_false] at hp
        rcases hp with rfl | rfl | rfl | rfl | rfl | rfl | rfl | rfl | rfl | rfl | rfl | rfl | rfl | rfl
        · exact absurd e (by decide)
        · exact absurd e (by decide)
        · exact absurd e (by decide)
        · exact absurd e (by decide)
        · exact absurd e (by decide)
        · exact hd ⟨7, .data⟩ (by simp) rfl
        · exact hd ⟨9, .data⟩ (by simp) rfl
        · exact absurd e (by decide)
        · exact absurd e (by decide)
        · exact absurd e (by decide)
        · exact absurd e (by decide)
        · exact absurd e (by decide)
        · exact absurd e (by decide)
        · exact absurd e (by decide))), (kp f0), (kp f1), (kp f2), (kp f3), (kp f4), (kp f5), (kp f6), (fun _ => ⟨g7, rfl, fun h => absurd h (by rw [upd_self]; decide)⟩), (kp f8), (kp f9), (fun _ => ⟨A8, c8, e8, fun _ => o1.base J.size⟩), (fun h => absurd (f11 (upd_ne h (by decide))).2 (by rw [hL]; decide)), (fun h => absurd (f12 (upd_ne h (by decide))).2 (by rw [hL]; decide)), (fun h => absurd (I1.get (i := 13) (j := 10) (by decide) (upd_ne h (by decide))) (by rw [hL]; decide)), (kp f14), (kp f15), (fun h => absurd (f16 (upd_ne h (by decide)) 10 (by decide)) (by rw [hL]; decide))⟩
    · obtain rfl := Option.some.inj ho
      have g6 := f6 (hd ⟨6, .data⟩ (by simp) rfl)
      have g10 := f10 (hd ⟨10, .data⟩ (by simp) rfl)
      subst g6
      have hL13 : L 13 = false := by
        cases e : L 13
        · rfl
        · exact absurd (I1.get (i := 12) (j := 11) (by decide) (I1.get (i := 13) (j := 12) (by decide) e)) (by rw [hL]; decide)
      have J := I0 hL13
      have l10 := Lib.hid (hd ⟨10, .data⟩ (by simp) rfl)
      obtain ⟨A8, c8, e8, r8⟩ := g10
      subst e8
      refine wpOp_step rfl (fun K' hK => ?_)
      go_simp
      refine hK _ _ ?_
      exact ⟨_, _, _, _, _, _, _, _, _, _, _, _, _, _, _, _, rfl, (fun _ => J), (Closed.step I1 (by
        intro p hp e
        simp only [List.mem_cons, List.not_mem_nil, or_false] at hp
        rcases hp with rfl | rfl | rfl | rfl | rfl | rfl | rfl | rfl | rfl | rfl | rfl | rfl | rfl | rfl
        · exact absurd e (by decide)
        · exact absurd e (by decide)
        · exact absurd e (by decide)
        · exact absurd e (by decide)
        · exact absurd e (by decide)
        · exact absurd e (by decide)
        · exact absurd e (by decide)
        · exact hd ⟨6, .data⟩ (by simp) rfl
        · exact hd ⟨10, .data⟩ (by simp) rfl
        · exact absurd e (by decide)
        · exact absurd e (by decide)
        · exact absurd e (by decide)
        · exact absurd e (by decide)
        · exact absurd e (by decide))), (kp f0), (kp f1), (kp f2), (kp f3), (kp f4), (kp f5), (kp f6), (fun h => by
        obtain ⟨g7, e7, r7⟩ := f7 (upd_ne h (by decide))
        exact ⟨g7, e7, fun h10 => r7 (by rw [upd_other (by decide)] at h10; exact h10)⟩), (kp f8), (kp f9), (fun _ => ⟨A8, c8, rfl, fun h13 => r8 (by rw [upd_other (by decide)] at h13; exact h13)⟩), (fun _ => ⟨rfl, upd_mono l10.out⟩), (fun h => by
        obtain ⟨⟨g12, e12, r12⟩, l12⟩ := f12 (upd_ne h (by decide))
        exact ⟨⟨g12, e12, fun h13 => r12 (by rw [upd_other (by decide)] at h13; exact h13)⟩, upd_mono l12⟩), (fun h => absurd (I1.get (i := 12) (j := 11) (by decide) (I1.get (i := 13) (j := 12) (by decide) (upd_ne h (by decide)))) (by rw [hL]; decide)), (kp f14), (kp f15), (fun h => absurd (f16 (upd_ne h (by decide)) 11 (by decide)) (by rw [hL]; decide))⟩
    · obtain rfl := Option.some.inj ho
      have g11 := f11 (hd ⟨11, .data⟩ (by simp) rfl)
      have hL13 : L 13 = false := by
        cases e : L 13
        · rfl
        · exact absurd (I1.get (i := 13) (j := 12) (by decide) e) (by rw [hL]; decide)
      have J := I0 hL13
      obtain ⟨g11, l10⟩ := g11
      subst g11
      have L10 := Lib.hid l10
      clear l10
      obtain ⟨A8, c8, e8, r8⟩ := f10 L10.out
      subst e8
      have b5 : Below ww.heap.size ww (ww.alloc (.cells #[.bool true, .int .i64 oc, .slice A8 ob c8] 70)) := (Below.refl _ _).alloc (Nat.le_refl _) _
      have q12 := Rw.new ww 70 #[.bool true, .int .i64 oc, .slice A8 ob c8]
      refine wpOp_step rfl (fun K' hK => ?_)
      go_simp
      refine hK _ _ ?_
      exact ⟨_, _, _, _, _, _, _, _, _, _, _, _, _, _, _, _, rfl, (fun _ => J.alloc J.size _), (Closed.step I1 (by
        intro p hp e
        simp only [List.mem_cons, List.not_mem_nil, or_false] at hp
        rcases hp with rfl | rfl | rfl | rfl | rfl | rfl | rfl | rfl | rfl | rfl | rfl | rfl | rfl | rfl
        · exact absurd e (by decide)
        · exact absurd e (by decide)
        · exact absurd e (by decide)
        · exact absurd e (by decide)
        · exact absurd e (by decide)
        · exact absurd e (by decide)
        · exact absurd e (by decide)
        · exact absurd e (by decide)
        · exact absurd e (by decide)
        · exact hd ⟨11, .data⟩ (by simp) rfl
        · exact absurd e (by decide)
        · exact absurd e (by decide)
        · exact absurd e (by decide)
        · exact absurd e (by decide))), (kp f0), (kp f1), (kp f2), (kp f3), (kp f4), (kp f5), (kp f6), (fun h => by
        obtain ⟨g7, e7, r7⟩ := f7 (upd_ne h (by decide))
        exact ⟨g7, e7, fun h10 => absurd L10.out (by rw [upd_other (by decide)] at h10; rw [h10]; decide)⟩), (kp f8), (kp f9), (fun _ => ⟨A8, c8, rfl, fun _ => (r8 hL13).below b5 (Nat.le_refl _)⟩), (fun h => ⟨(f11 (upd_ne h (by decide))).1, upd_mono (f11 (upd_ne h (by decide))).2⟩), (fun _ => ⟨⟨_, rfl, fun _ => q12⟩, upd_mono L10.out⟩), (fun h => absurd (I1.get (i := 13) (j := 12) (by decide) (upd_ne h (by decide))) (by rw [hL]; decide)), (kp f14), (kp f15), (fun h => absurd (f16 (upd_ne h (by decide)) 12 (by decide)) (by rw [hL]; decide))⟩
    · obtain rfl := Option.some.inj ho
      have g4 := f4 (hd ⟨4, .data⟩ (by simp) rfl)
      have g12 := f12 (hd ⟨12, .data⟩ (by simp) rfl)
      subst g4
      have lq : Hid (L 10 = true) := Lib.hid (hd ⟨10, .chain⟩ (by simp) rfl)
      have J := I0 hL
      obtain ⟨⟨g12, e12, r12⟩, -⟩ := g12
      subst e12
      have q12 := r12 hL
      obtain ⟨A8, c8, e8, r8⟩ := f10 lq.out
      subst e8
      have o8 := r8 hL
      have S6 := SS.out.up J
      have own6 : ww.ownsRow w0.heap.size 70 3 (.slice A n c) n (flatC h.cs rvs) := by
        have := S6.own.row
        rwa [HN.out] at this
      have hw0 := S6.low.size
      refine wpOp_step rfl (fun K' hK => ?_)
      refine app_stepC rfl (.tmp 20) (.tmp 28) rfl w0.heap.size _ n (flatC h.cs rvs) rfl own6 g12 true oc A8 ob c8 rfl q12 (by omega) hw0 ?_
      intro v' w' A9 c9 e9 o1 g1 s1
      subst e9
      refine hK _ _ ?_
      exact ⟨_, _, _, _, _, _, _, _, _, _, _, _, _, _, _, _, rfl, (fun h => absurd h (by rw [upd_self]; decide)), (Closed.step I1 (by
        intro p hp e
        simp only [List.mem_cons, List.not_mem_nil, or_false] at hp
        rcases hp with rfl | rfl | rfl | rfl | rfl | rfl | rfl | rfl | rfl | rfl | rfl | rfl | rfl | rfl
        · exact absurd e (by decide)
        · exact absurd e (by decide)
        · exact absurd e (by decide)
        · exact absurd e (by decide)
        · exact absurd e (by decide)
        · exact absurd e (by decide)
        · exact absurd e (by decide)
        · exact absurd e (by decide)
        · exact absurd e (by decide)
        · exact absurd e (by decide)
        · exact hd ⟨4, .data⟩ (by simp) rfl
        · exact hd ⟨10, .chain⟩ (by simp) rfl
        · exact hd ⟨12, .data⟩ (by simp) rfl
        · exact absurd e (by decide))), (kp f0), (kp f1), (kp f2), (kp f3), (kp f4), (kp f5), (kp f6), (fun h => by
        obtain ⟨g7, e7, r7⟩ := f7 (upd_ne h (by decide))
        exact ⟨g7, e7, fun h10 => absurd lq.out (by rw [upd_other (by decide)] at h10; rw [h10]; decide)⟩), (kp f8), (kp f9), (fun _ => ⟨A8, c8, rfl, fun h => absurd h (by rw [upd_self]; decide)⟩), (fun h => ⟨(f11 (upd_ne h (by decide))).1, upd_mono (f11 (upd_ne h (by decide))).2⟩), (fun _ => ⟨⟨g12, rfl, fun h => absurd h (by rw [upd_self]; decide)⟩, upd_mono lq.out⟩), (fun _ => ⟨A9, c9, rfl, ww, w', by
        rw [upd_other (by decide)]
        cases e : L 16
        · rw [if_neg (by decide)]
        · exact absurd (f16 e 13 (by decide)) (by rw [hL]; decide), J, o8, g1, o1, s1, upd_mono lq.out⟩), (kp f14), (kp f15), (fun h => absurd (f16 (upd_ne h (by decide)) 13 (by decide)) (by rw [hL]; decide))⟩
    · obtain rfl := Option.some.inj ho
      have g0 := f0 (hd ⟨0, .data⟩ (by simp) rfl)
      subst g0
      refine wpOp_step rfl (fun K' hK => ?_)
      go_simp
      refine hK _ _ ?_
      exact ⟨_, _, _, _, _, _, _, _, _, _, _, _, _, _, _, _, rfl, (fun h => I0 (by rw [upd_other (by decide)] at h; exact h)), (Closed.step I1 (by
        intro p hp e
        simp only [List.mem_cons, List.not_mem_nil, or_false] at hp
        rcases hp with rfl | rfl | rfl | rfl | rfl | rfl | rfl | rfl | rfl | rfl | rfl | rfl | rfl | rfl
        · exact absurd e (by decide)
        · exact absurd e (by decide)
        · exact absurd e (by decide)
        · exact absurd e (by decide)
        · exact absurd e (by decide)
        · exact absurd e (by decide)
        · exact absurd e (by decide)
        · exact absurd e (by decide)
        · exact absurd e (by decide)
        · exact absurd e (by decide)
        · exact absurd e (by decide)
        · exact absurd e (by decide)
        · exact absurd e (by decide)
        · exact absurd e (by decide))), (kp f0), (kp f1), (kp f2), (kp f3), (kp f4), (kp f5), (kp f6), (fun h => by
        obtain ⟨g7, e7, r7⟩ := f7 (upd_ne h (by decide))
        exact ⟨g7, e7, fun h10 => r7 (by rw [upd_other (by decide)] at h10; exact h10)⟩), (kp f8), (kp f9), (fun h => by
        obtain ⟨A8, c8, e8, r8⟩ := f10 (upd_ne h (by decide))
        exact ⟨A8, c8, e8, fun h13 => r8 (by rw [upd_other (by decide)] at h13; exact h13)⟩), (fun h => ⟨(f11 (upd_ne h (by decide))).1, upd_mono (f11 (upd_ne h (by decide))).2⟩), (fun h => by
        obtain ⟨⟨g12, e12, r12⟩, l12⟩ := f12 (upd_ne h (by decide))
        exact ⟨⟨g12, e12, fun h13 => r12 (by rw [upd_other (by decide)] at h13; exact h13)⟩, upd_mono l12⟩), (fun h => by
        obtain ⟨A9, c9, e9, wp, w9, e10, r1, r2, r3, r4, r5, r6⟩ := f13 (upd_ne h (by decide))
        exact ⟨A9, c9, e9, wp, w9, by rw [upd_other (by decide)]; exact e10, r1, r2, r3, r4, r5, upd_mono r6⟩), (fun _ => rfl), (kp f15), (fun h => absurd (f16 (upd_ne h (by decide)) 14 (by decide)) (by rw [hL]; decide))⟩
    · obtain rfl := Option.some.inj ho
      have g14 := f14 (hd ⟨14, .data⟩ (by simp) rfl)
      subst g14
      refine wpOp_step rfl (fun K' hK => ?_)
      go_simp
      refine hK _ _ ?_
      exact ⟨_, _, _, _, _, _, _, _, _, _, _, _, _, _, _, _, rfl, (fun h => I0 (by rw [upd_other (by decide)] at h; exact h)), (Closed.step I1 (by
        intro p hp e
        simp only [List.mem_cons, List.not_mem_nil, or_false] at hp
        rcases hp with rfl | rfl | rfl | rfl | rfl | rfl | rfl | rfl | rfl | rfl | rfl | rfl | rfl | rfl
        · exact absurd e (by decide)
        · exact absurd e (by decide)
        · exact absurd e (by decide)
        · exact absurd e (by decide)
        · exact absurd e (by decide)
        · exact absurd e (by decide)
        · exact absurd e (by decide)
        · exact absurd e (by decide)
        · exact absurd e (by decide)
        · exact absurd e (by decide)
        · exact absurd e (by decide)
        · exact absurd e (by decide)
        · exact absurd e (by decide)
        · exact hd ⟨14, .data⟩ (by simp) rfl)), (kp f0), (kp f1), (kp f2), (kp f3), (kp f4), (kp f5), (kp f6), (fun h => by
        obtain ⟨g7, e7, r7⟩ := f7 (upd_ne h (by decide))
        exact ⟨g7, e7, fun h10 => r7 (by rw [upd_other (by decide)] at h10; exact h10)⟩), (kp f8), (kp f9), (fun h => by
        obtain ⟨A8, c8, e8, r8⟩ := f10 (upd_ne h (by decide))
        exact ⟨A8, c8, e8, fun h13 => r8 (by rw [upd_other (by decide)] at h13; exact h13)⟩), (fun h => ⟨(f11 (upd_ne h (by decide))).1, upd_mono (f11 (upd_ne h (by decide))).2⟩), (fun h => by
        obtain ⟨⟨g12, e12, r12⟩, l12⟩ := f12 (upd_ne h (by decide))
        exact ⟨⟨g12, e12, fun h13 => r12 (by rw [upd_other (by decide)] at h13; exact h13)⟩, upd_mono l12⟩), (fun h => by
        obtain ⟨A9, c9, e9, wp, w9, e10, r1, r2, r3, r4, r5, r6⟩ := f13 (upd_ne h (by decide))
        exact ⟨A9, c9, e9, wp, w9, by rw [upd_other (by decide)]; exact e10, r1, r2, r3, r4, r5, upd_mono r6⟩), (kp f14), (fun _ => rfl), (fun h => absurd (f16 (upd_ne h (by decide)) 15 (by decide)) (by rw [hL]; decide))⟩
    · obtain rfl := Option.some.inj ho
      have g13 := f13 (hd ⟨13, .data⟩ (by simp) rfl)
      have g15 := f15 (hd ⟨15, .data⟩ (by simp) rfl)
      subst g15
      have lq : Hid (∀ q, q < 16 → L q = true) := Lib.hid (by
        intro q hq
        obtain rfl | rfl | rfl | rfl | rfl | rfl | rfl | rfl | rfl | rfl | rfl | rfl | rfl | rfl | rfl | rfl : q = 0 ∨ q = 1 ∨ q = 2 ∨ q = 3 ∨ q = 4 ∨ q = 5 ∨ q = 6 ∨ q = 7 ∨ q = 8 ∨ q = 9 ∨ q = 10 ∨ q = 11 ∨ q = 12 ∨ q = 13 ∨ q = 14 ∨ q = 15 := by omega
        · exact hd ⟨0, .phase⟩ (by simp) rfl
        · exact hd ⟨1, .phase⟩ (by simp) rfl
        · exact hd ⟨2, .phase⟩ (by simp) rfl
        · exact hd ⟨3, .phase⟩ (by simp) rfl
        · exact hd ⟨4, .phase⟩ (by simp) rfl
        · exact hd ⟨5, .phase⟩ (by simp) rfl
        · exact hd ⟨6, .phase⟩ (by simp) rfl
        · exact hd ⟨7, .phase⟩ (by simp) rfl
        · exact hd ⟨8, .phase⟩ (by simp) rfl
        · exact hd ⟨9, .phase⟩ (by simp) rfl
        · exact hd ⟨10, .phase⟩ (by simp) rfl
        · exact hd ⟨11, .phase⟩ (by simp) rfl
        · exact hd ⟨12, .phase⟩ (by simp) rfl
        · exact hd ⟨13, .phase⟩ (by simp) rfl
        · exact I1.get (i := 15) (j := 14) (by decide) (hd ⟨15, .data⟩ (by simp) rfl)
        · exact hd ⟨15, .data⟩ (by simp) rfl)
      obtain ⟨A9, c9, e9, wp, w9, e10, r1, r2, r3, r4, r5, r6⟩ := g13
      rw [hL, if_neg (by decide)] at e10
      subst e10
      subst e9
      have hb9 : Rw ww b 26 #[.slice A n c, .slice (some ⟨gr, 0, none⟩) 4 d] := Rw.far (SS.out.up r1).box r3 (row_type (by have := (SS.out.up r1).own.row; rw [HN.out] at this; exact this) (SS.out.up r1).box (by decide))
      have z0 : ww.cell? ⟨b, 0, none⟩ = some (.slice A n c) := hb9.cell 0
      have zf : ww.frozen? ⟨b, 0, none⟩ = false := hb9.frozen 0
      refine wpOp_step rfl (fun K' hK => ?_)
      go_simp
      refine hK _ _ ?_
      exact ⟨_, _, _, _, _, _, _, _, _, _, _, _, _, _, _, _, rfl, (fun h => by
        rw [upd_other (by decide)] at h
        exact absurd (lq.out 13 (by decide)) (by rw [h]; decide)), (Closed.step I1 (by
        intro p hp e
        simp only [List.mem_cons, List.not_mem_nil, or_false] at hp
        rcases hp with rfl | rfl | rfl | rfl | rfl | rfl | rfl | rfl | rfl | rfl | rfl | rfl | rfl | rfl
        · exact absurd e (by decide)
        · exact absurd e (by decide)
        · exact absurd e (by decide)
        · exact absurd e (by decide)
        · exact absurd e (by decide)
        · exact absurd e (by decide)
        · exact absurd e (by decide)
        · exact absurd e (by decide)
        · exact absurd e (by decide)
        · exact absurd e (by decide)
        · exact absurd e (by decide)
        · exact absurd e (by decide)
        · exact absurd e (by decide)
        · exact absurd e (by decide))), (kp f0), (kp f1), (kp f2), (kp f3), (kp f4), (kp f5), (kp f6), (fun h => by
        obtain ⟨g7, e7, r7⟩ := f7 (upd_ne h (by decide))
        exact ⟨g7, e7, fun h10 => absurd (lq.out 10 (by decide)) (by rw [upd_other (by decide)] at h10; rw [h10]; decide)⟩), (kp f8), (kp f9), (fun h => by
        obtain ⟨A8, c8, e8, r8⟩ := f10 (upd_ne h (by decide))
        exact ⟨A8, c8, e8, fun h13 => absurd (lq.out 13 (by decide)) (by rw [upd_other (by decide)] at h13; rw [h13]; decide)⟩), (fun h => ⟨(f11 (upd_ne h (by decide))).1, upd_mono (f11 (upd_ne h (by decide))).2⟩), (fun h => by
        obtain ⟨⟨g12, e12, r12⟩, l12⟩ := f12 (upd_ne h (by decide))
        exact ⟨⟨g12, e12, fun h13 => absurd (lq.out 13 (by decide)) (by rw [upd_other (by decide)] at h13; rw [h13]; decide)⟩, upd_mono l12⟩), (fun _ => ⟨A9, c9, rfl, wp, ww, by rw [upd_self, if_pos rfl], r1, r2, r3, r4, r5, upd_mono (lq.out 10 (by decide))⟩), (kp f14), (kp f15), (fun _ q hq => upd_mono (lq.out q hq))⟩
  case hdone =>
    rintro L ac ww hall ⟨t16, t17, t18, t19, t20, t21, t22, t23, t24, t25, t26, t27, t28, t29, t30, t31, rfl, I0, I1, f0, f1, f2, f3, f4, f5, f6, f7, f8, f9, f10, f11, f12, f13, f14, f15, f16⟩
    have e0 := f0 (hall 0 (by decide))
    have e1 := f1 (hall 1 (by decide))
    have e2 := f2 (hall 2 (by decide))
    have e3 := f3 (hall 3 (by decide))
    have e4 := f4 (hall 4 (by decide))
    have e5 := f5 (hall 5 (by decide))
    have e6 := f6 (hall 6 (by decide))
    have e7 := f7 (hall 7 (by decide))
    have e8 := f8 (hall 8 (by decide))
    have e9 := f9 (hall 9 (by decide))
    have e10 := f10 (hall 10 (by decide))
    have e11 := f11 (hall 11 (by decide))
    have e12 := f12 (hall 12 (by decide))
    have e13 := f13 (hall 13 (by decide))
    have e14 := f14 (hall 14 (by decide))
    have e15 := f15 (hall 15 (by decide))
    have e16 := f16 (hall 16 (by decide))
    clear f0 f1 f2 f3 f4 f5 f6 f7 f8 f9 f10 f11 f12 f13 f14 f15 f16
    obtain ⟨A9, c9, rfl, wp, w9, e17, r1, r2, r3, r4, r5, r6⟩ := e13
    rw [hall 16 (by decide), if_pos rfl] at e17
    subst e17
    have SP := SS.out.up r1
    have hap : ∀ v ∈ (Value.slice A n c) :: (.slice (some ⟨gr, 0, none⟩) 4 d) :: rvs, t26.ownBlock = none ∨ t26.ownBlock ≠ v.ownBlock := fun v hv => by
      cases e : t26.ownBlock with
      | none => exact .inl rfl
      | some k =>
        right
        intro e'
        have a1 := (World.ownsRow.lt r2 k e).1
        have a2 := (SS.out.own.blocks hv e'.symm).2
        omega
    have h8b : t26.ownBlock ≠ some b := fun e => by
      have := (World.ownsRow.lt r2 b e).1
      omega
    have SF := SP.snoc (cl := ⟨true, oc, List.replicate ob (-1)⟩) (v9 := .slice A9 (n + 1) c9) (v8 := t26) r3 (by rw [HN.out]; exact r4) r5 (r2.base (by have := SS.out.low.size; omega)) hap h8b
    clear I0 I1 e0 e1 e2 e3 e4 e5 e6 e7 e8 e9 e10 e11 e12 e14 e15 e16 hall r1 r2 r3 r4 r5 r6 SP hap h8b x0 y2 y3
    go_wp2_with fail
    go_end0
    exact ⟨⟨_, rfl⟩, _, _, _, by rw [HF.out, HN.out]; exact SF⟩
end Go.Proofs.Ytbcefmkgifkjiaa
