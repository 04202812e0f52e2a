/- What the model's LazyStart returns: for every heap. No conditions. -/
import Derived.Test.YtakdjiojahlnmaaTb
import Derived.Test.YtakdjiojahlnmaaHf
import Derived.Test.YtakdjiojahlnmaaHh
import Derived.Test.YtakdjiojahlnmaaGa
namespace Go.Proofs.Ytakdjiojahlnmaa
open Go.RowKit
set_option maxRecDepth 100000

set_option maxHeartbeats 4000000 in
theorem mLazyStart_any (A R : Option Addr) (n c m d : Nat) (h : Hp) (w : World) (hs : HS w w.heap.size A n R m h) (hn : n ≤ 1099511627776) (hm : m ≤ 1099511627776) :
    Calls Try.prog 13 #[heapV A n c R m d] w (GaveLz w (Hps.startLz h)) := by
  have B2 : Below w.heap.size w ((w.alloc (.cells #[.slice A n c, .slice R m d] 26)).alloc (.cells #[.slice none 0 0, .slice none 0 0, .slice none 0 0, .int .i64 0] 30)) := ((Below.refl _ _).alloc (Nat.le_refl _) _).alloc (by simp) _
  have q1 := (Rw.new w 26 #[.slice A n c, .slice R m d]).alloc (.cells #[.slice none 0 0, .slice none 0 0, .slice none 0 0, .int .i64 0] 30)
  have q2 := Rw.new (w.alloc (.cells #[.slice A n c, .slice R m d] 26)) 30 #[.slice none 0 0, .slice none 0 0, .slice none 0 0, .int .i64 0]
  simp only [World.size_alloc] at q2
  have s2 := hs.up B2
  have HY := Lib.hid (rfl : Hps.startLz h = Hps.startLz h)
  obtain ⟨y, hy⟩ : ∃ y, Hps.startLz h = y := ⟨_, rfl⟩
  replace HY := Lib.hid hy
  rw [hy]
  have HLC := Lib.hid hs.cells.1
  have HLR := Lib.hid hs.roots.1
  clear hy hs
  go_enter Try.func13, Try.ntmps13
  go_upto_region 1 with fail
  generalize (w.alloc (.cells #[.slice A n c, .slice R m d] 26)).alloc (.cells #[.slice none 0 0, .slice none 0 0, .slice none 0 0, .int .i64 0] 30) = w2 at B2 q1 q2 s2 ⊢
  obtain ⟨q, hq⟩ : ∃ q, w.heap.size = q := ⟨_, rfl⟩
  rw [hq] at B2 q1 q2 ⊢
  have HQ := Lib.hid hq
  clear hq
  have hql := q1.lt
  have hrl := q2.lt
  have x0 : w2.cell? ⟨q, 0, none⟩ = some (.slice A n c) := q1.cell 0
  have x1 : w2.cell? ⟨q, 1, none⟩ = some (.slice R m d) := q1.cell 1
  have SS := Lib.hid s2
  clear s2 q1
  cases hv : Hps.validH h
  · have HE := Lib.hid (show Hps.zeroLz = y by rw [← HY.out, Hps.startLz, if_neg (by rw [hv]; simp)])
    have HV := Lib.hid hv
    clear hv HY
    go_wp2_with fail
    refine (mHeapValid_any A R n c m d h _ SS.out (by omega) (by omega)).mono ?_
    rw [HV.out]
    rintro e w3 ⟨rfl, b3⟩
    have P := q2.keep b3 hrl
    have zf0 : w3.frozen? ⟨q + 1, 0, none⟩ = false := P.frozen 0
    have zf1 : w3.frozen? ⟨q + 1, 1, none⟩ = false := P.frozen 1
    have zf2 : w3.frozen? ⟨q + 1, 2, none⟩ = false := P.frozen 2
    have zf3 : w3.frozen? ⟨q + 1, 3, none⟩ = false := P.frozen 3
    have zc0 : w3.cell? ⟨q + 1, 0, none⟩ = some (.slice none 0 0) := P.cell 0
    have zc1 : w3.cell? ⟨q + 1, 1, none⟩ = some (.slice none 0 0) := P.cell 1
    have zc2 : w3.cell? ⟨q + 1, 2, none⟩ = some (.slice none 0 0) := P.cell 2
    have zc3 : w3.cell? ⟨q + 1, 3, none⟩ = some (.int .i64 0) := P.cell 3
    have P4 := ((((P.put 0 (.slice none 0 0)).put 1 (.slice none 0 0)).put 2 (.slice none 0 0)).put 3 (.int .i64 0))
    have s8 : (((((w3).setCell ⟨q + 1, 0, none⟩ (.slice none 0 0)).setCell ⟨q + 1, 1, none⟩ (.slice none 0 0)).setCell ⟨q + 1, 2, none⟩ (.slice none 0 0)).setCell ⟨q + 1, 3, none⟩ (.int .i64 0)).cell? ⟨q + 1, 0, none⟩ = some (.slice none 0 0) := P4.cell 0
    have s9 : (((((w3).setCell ⟨q + 1, 0, none⟩ (.slice none 0 0)).setCell ⟨q + 1, 1, none⟩ (.slice none 0 0)).setCell ⟨q + 1, 2, none⟩ (.slice none 0 0)).setCell ⟨q + 1, 3, none⟩ (.int .i64 0)).cell? ⟨q + 1, 1, none⟩ = some (.slice none 0 0) := P4.cell 1
    have s10 : (((((w3).setCell ⟨q + 1, 0, none⟩ (.slice none 0 0)).setCell ⟨q + 1, 1, none⟩ (.slice none 0 0)).setCell ⟨q + 1, 2, none⟩ (.slice none 0 0)).setCell ⟨q + 1, 3, none⟩ (.int .i64 0)).cell? ⟨q + 1, 2, none⟩ = some (.slice none 0 0) := P4.cell 2
    have s11 : (((((w3).setCell ⟨q + 1, 0, none⟩ (.slice none 0 0)).setCell ⟨q + 1, 1, none⟩ (.slice none 0 0)).setCell ⟨q + 1, 2, none⟩ (.slice none 0 0)).setCell ⟨q + 1, 3, none⟩ (.int .i64 0)).cell? ⟨q + 1, 3, none⟩ = some (.int .i64 0) := P4.cell 3
    clear P4
    have HW := HQ.out
    have D := Lib.hid (OwnLz.out (w := w) (g := q + 1) 0 (own_zeroLz w3 w3.heap.size (Nat.le_refl _)) (by have := b3.size; omega) (by rw [HW]; exact B2.trans (b3.mono (by have := B2.size; omega))) (by omega))
    clear P b3 x0 x1 SS q2 B2 hql hrl
    go_wp2_with fail
    obtain rfl := HE.out
    exact bodyPost_ret (v := .agg #[.slice none 0 0, .slice none 0 0, .slice none 0 0, .int .i64 0]) (by simp [results, Try.results13, go_sem, *]) rfl ⟨_, _, _, rfl, D.out.1, D.out.2⟩
  have HE := Lib.hid (show Hps.startLz h = ⟨h, Hps.reachH h, 0⟩ by rw [Hps.startLz, if_pos hv])
  rw [HY.out] at HE
  have HV := Lib.hid hv
  obtain ⟨h40, h4, h3⟩ := Hps.valid_small hv
  have H3 := Lib.hid h3
  have hn40 : n ≤ 40 := by have := HLC.out; omega
  have hm40 : m ≤ 4 := by have := HLR.out; omega
  clear hv HY h3 h40 h4
  go_wp2_with fail
  refine (mHeapValid_any A R n c m d h _ SS.out (by omega) (by omega)).mono ?_
  rw [HV.out]
  rintro e w3 ⟨rfl, b3⟩
  replace q2 := q2.keep b3 hrl
  replace B2 := B2.trans (b3.mono (by have := B2.size; omega))
  replace SS := Lib.hid (SS.out.up b3)
  replace x0 := (b3.cell (p := ⟨q, 0, none⟩) hql).trans x0
  replace x1 := (b3.cell (p := ⟨q, 1, none⟩) hql).trans x1
  replace hql := Nat.lt_of_lt_of_le hql b3.size
  replace hrl := Nat.lt_of_lt_of_le hrl b3.size
  clear b3 HV
  go_upto_region 3 with fail
  refine wp_region_inv (by kernel_rfl) (by kernel_rfl) (fun L ac ww => ∃ t7 t8 t9 t10 t11 : Value, ac = { tmps := #[heapV A n c R m d, Value.pointer (some { block := q, off := 0 }), Value.pointer (some { block := q + 1, off := 0 }), Value.agg #[Value.slice A n c, Value.slice R m d], Value.bool true, Value.bool false, undef, t7, t8, t9, t10, t11], defers := [] } ∧ (L 5 = false → Below w3.heap.size w3 ww) ∧ (L 0 = true → t7 = .agg #[.slice A n c, .slice R m d]) ∧ (L 1 = true → ∃ (A5 : Option Addr) (n5 c5 : Nat) (R5 : Option Addr) (m5 d5 : Nat), t8 = .agg #[.slice A5 n5 c5, .slice R5 m5 d5] ∧ (L 3 = false → OwnH ww w3.heap.size (.slice A5 n5 c5) (.slice R5 m5 d5) h)) ∧ (L 2 = true → t9 = .agg #[.slice A n c, .slice R m d]) ∧ (L 3 = true → ∃ (A5 : Option Addr) (n5 c5 : Nat) (R5 : Option Addr) (m5 d5 : Nat) (K5 : Option Addr) (p5 q5 : Nat), t8 = .agg #[.slice A5 n5 c5, .slice R5 m5 d5] ∧ t10 = .slice K5 p5 q5 ∧ L 1 = true ∧ (L 5 = false → OwnLz ww w3.heap.size (.slice A5 n5 c5) (.slice R5 m5 d5) (.slice K5 p5 q5) h (Hps.reachH h))) ∧ (L 4 = true → L 1 = true ∧ L 3 = true ∧ ∃ (A5 : Option Addr) (n5 c5 : Nat) (R5 : Option Addr) (m5 d5 : Nat) (K5 : Option Addr) (p5 q5 : Nat), t8 = .agg #[.slice A5 n5 c5, .slice R5 m5 d5] ∧ t10 = .slice K5 p5 q5 ∧ t11 = .agg #[.slice A5 n5 c5, .slice R5 m5 d5, .slice K5 p5 q5, .int .i64 0]) ∧ (L 5 = true → (∀ q, q < 5 → L q = true) ∧ ∃ (A5 : Option Addr) (n5 c5 : Nat) (R5 : Option Addr) (m5 d5 : Nat) (K5 : Option Addr) (p5 q5 : Nat) (wp : World), ww = ((((wp).setCell ⟨q + 1, 0, none⟩ (.slice A5 n5 c5)).setCell ⟨q + 1, 1, none⟩ (.slice R5 m5 d5)).setCell ⟨q + 1, 2, none⟩ (.slice K5 p5 q5)).setCell ⟨q + 1, 3, none⟩ (.int .i64 0) ∧ Below w3.heap.size w3 wp ∧ OwnLz wp w3.heap.size (.slice A5 n5 c5) (.slice R5 m5 d5) (.slice K5 p5 q5) h (Hps.reachH h))) ?h0 ?hstep ?hdone
  case h0 => exact ⟨_, _, _, _, _, rfl, fun _ => (Below.refl _ _).drew, (fun h => absurd h Bool.false_ne_true), (fun h => absurd h Bool.false_ne_true), (fun h => absurd h Bool.false_ne_true), (fun h => absurd h Bool.false_ne_true), (fun h => absurd h Bool.false_ne_true), (fun h => absurd h Bool.false_ne_true)⟩
  case hstep =>
    rintro L ac ww i o ho hL hd ⟨t7, t8, t9, t10, t11, rfl, I0, f0, f1, f2, f3, f4, f5⟩
    have hi : i < 6 := (Array.getElem?_eq_some_iff.1 ho).1
    obtain rfl | rfl | rfl | rfl | rfl | rfl : i = 0 ∨ i = 1 ∨ i = 2 ∨ i = 3 ∨ i = 4 ∨ i = 5 := by omega
    · obtain rfl := Option.some.inj ho
      have hL5 : L 5 = false := by
        cases e : L 5
        · rfl
        · exact absurd ((f5 e).1 0 (by decide)) (by rw [hL]; decide)
      have J := I0 hL5
      have z0 : ww.cell? ⟨q, 0, none⟩ = some (.slice A n c) := (J.cell (p := ⟨q, 0, none⟩) hql).trans x0
      have z1 : ww.cell? ⟨q, 1, none⟩ = some (.slice R m d) := (J.cell (p := ⟨q, 1, none⟩) hql).trans x1
      refine wpOp_step rfl (fun K' hK => ?_)
      go_simp
      refine hK _ _ ?_
      exact ⟨_, _, _, _, _, rfl, (fun _ => J), (fun _ => rfl), (fun h => by
        obtain ⟨A5, n5, c5, R5, m5, d5, e, r⟩ := f1 (upd_ne h (by decide))
        exact ⟨A5, n5, c5, R5, m5, d5, e, fun h4 => r (by rw [upd_other (by decide)] at h4; exact h4)⟩), (kp f2), (fun h => by
        obtain ⟨A5, n5, c5, R5, m5, d5, K5, p5, q5, e, e7, l1, r⟩ := f3 (upd_ne h (by decide))
        exact ⟨A5, n5, c5, R5, m5, d5, K5, p5, q5, e, e7, upd_mono l1, fun h6 => r (by rw [upd_other (by decide)] at h6; exact h6)⟩), (fun h => by
        obtain ⟨l1, l4, r⟩ := f4 (upd_ne h (by decide))
        exact ⟨upd_mono l1, upd_mono l4, r⟩), (fun h => absurd hL5 (by rw [upd_ne h (by decide)]; decide))⟩
    · obtain rfl := Option.some.inj ho
      have g0 := f0 (hd ⟨0, .data⟩ (by simp) rfl)
      subst g0
      have hL5 : L 5 = false := by
        cases e : L 5
        · rfl
        · exact absurd ((f5 e).1 1 (by decide)) (by rw [hL]; decide)
      have J := I0 hL5
      refine wpOp_step rfl (fun K' hK => ?_)
      go_simp
      refine (l7Copy_any A R n c m d h ww (SS.out.up J) (by omega) (by omega) (fun cl hcl => Nat.le_trans (H3.out cl hcl) (by omega))).mono ?_
      rintro e w' ⟨vc, vr, rfl, ow, b5⟩
      obtain ⟨A5, n5, c5, R5, m5, d5, rfl, rfl⟩ := ow.slices
      refine hK _ _ ?_
      exact ⟨_, _, _, _, _, rfl, (fun _ => J.trans (b5.mono J.size)), (kp f0), (fun _ => ⟨A5, n5, c5, R5, m5, d5, rfl, fun _ => ow.base J.size⟩), (kp f2), (fun h => by
        obtain ⟨_, _, _, _, _, _, _, _, _, _, _, l1, _⟩ := f3 (upd_ne h (by decide))
        exact absurd l1 (by rw [hL]; decide)), (fun h => absurd (f4 (upd_ne h (by decide))).1 (by rw [hL]; decide)), (fun h => absurd hL5 (by rw [upd_ne h (by decide)]; decide))⟩
    · obtain rfl := Option.some.inj ho
      have hL5 : L 5 = false := by
        cases e : L 5
        · rfl
        · exact absurd ((f5 e).1 2 (by decide)) (by rw [hL]; decide)
      have J := I0 hL5
      have z0 : ww.cell? ⟨q, 0, none⟩ = some (.slice A n c) := (J.cell (p := ⟨q, 0, none⟩) hql).trans x0
      have z1 : ww.cell? ⟨q, 1, none⟩ = some (.slice R m d) := (J.cell (p := ⟨q, 1, none⟩) hql).trans x1
      refine wpOp_step rfl (fun K' hK => ?_)
      go_simp
      refine hK _ _ ?_
      exact ⟨_, _, _, _, _, rfl, (fun _ => J), (kp f0), (fun h => by
        obtain ⟨A5, n5, c5, R5, m5, d5, e, r⟩ := f1 (upd_ne h (by decide))
        exact ⟨A5, n5, c5, R5, m5, d5, e, fun h4 => r (by rw [upd_other (by decide)] at h4; exact h4)⟩), (fun _ => rfl), (fun h => by
        obtain ⟨A5, n5, c5, R5, m5, d5, K5, p5, q5, e, e7, l1, r⟩ := f3 (upd_ne h (by decide))
        exact ⟨A5, n5, c5, R5, m5, d5, K5, p5, q5, e, e7, upd_mono l1, fun h6 => r (by rw [upd_other (by decide)] at h6; exact h6)⟩), (fun h => by
        obtain ⟨l1, l4, r⟩ := f4 (upd_ne h (by decide))
        exact ⟨upd_mono l1, upd_mono l4, r⟩), (fun h => absurd hL5 (by rw [upd_ne h (by decide)]; decide))⟩
    · obtain rfl := Option.some.inj ho
      have g2 := f2 (hd ⟨2, .data⟩ (by simp) rfl)
      subst g2
      have hL5 : L 5 = false := by
        cases e : L 5
        · rfl
        · exact absurd ((f5 e).1 3 (by decide)) (by rw [hL]; decide)
      have J := I0 hL5
      have l1 := Lib.hid (hd ⟨1, .chain⟩ (by simp) rfl)
      obtain ⟨A5, n5, c5, R5, m5, d5, e4, r4⟩ := f1 l1.out
      subst e4
      have oh := r4 hL
      refine wpOp_step rfl (fun K' hK => ?_)
      go_simp
      refine (mReachable_any A R n c m d h ww (SS.out.up J) (by omega) (by omega)).mono ?_
      rintro e w' ⟨vk, rfl, ok, b5⟩
      obtain ⟨K5, q5, e8, -⟩ := ok.form
      refine hK _ _ ?_
      exact ⟨_, _, _, _, _, rfl, (fun _ => J.trans (b5.mono J.size)), (kp f0), (fun _ => ⟨A5, n5, c5, R5, m5, d5, rfl, fun h => absurd h (by rw [upd_self]; decide)⟩), (kp f2), (fun _ => ⟨A5, n5, c5, R5, m5, d5, K5, _, q5, rfl, e8, upd_mono l1.out, fun _ => by
        rw [← e8]
        exact OwnLz.of oh b5 ok J.size⟩), (fun h => absurd (f4 (upd_ne h (by decide))).2.1 (by rw [hL]; decide)), (fun h => absurd hL5 (by rw [upd_ne h (by decide)]; decide))⟩
    · obtain rfl := Option.some.inj ho
      have g1 := f1 (hd ⟨1, .data⟩ (by simp) rfl)
      have g3 := f3 (hd ⟨3, .data⟩ (by simp) rfl)
      have hL5 : L 5 = false := by
        cases e : L 5
        · rfl
        · exact absurd ((f5 e).1 4 (by decide)) (by rw [hL]; decide)
      have J := I0 hL5
      have l4 := Lib.hid (hd ⟨3, .data⟩ (by simp) rfl)
      obtain ⟨A5, n5, c5, R5, m5, d5, K5, p5, q5, e4, e7, l1, r4⟩ := g3
      have L1 := Lib.hid l1
      clear l1
      subst e4
      subst e7
      clear g1
      refine wpOp_step rfl (fun K' hK => ?_)
      go_simp
      refine hK _ _ ?_
      exact ⟨_, _, _, _, _, rfl, (fun _ => J), (kp f0), (fun _ => ⟨A5, n5, c5, R5, m5, d5, rfl, fun h => absurd l4.out (by rw [upd_other (by decide)] at h; rw [h]; decide)⟩), (kp f2), (fun _ => ⟨A5, n5, c5, R5, m5, d5, K5, p5, q5, rfl, rfl, upd_mono L1.out, fun h => r4 (by rw [upd_other (by decide)] at h; exact h)⟩), (fun _ => ⟨upd_mono L1.out, upd_mono l4.out, A5, n5, c5, R5, m5, d5, K5, p5, q5, rfl, rfl, rfl⟩), (fun h => absurd hL5 (by rw [upd_ne h (by decide)]; decide))⟩
    · obtain rfl := Option.some.inj ho
      have g4 := f4 (hd ⟨4, .data⟩ (by simp) rfl)
      have lq : Hid (∀ q, q < 5 → L q = true) := Lib.hid (by
        intro q hq
        obtain rfl | rfl | rfl | rfl | rfl : q = 0 ∨ q = 1 ∨ q = 2 ∨ q = 3 ∨ q = 4 := by omega
        · exact hd ⟨0, .phase⟩ (by simp) rfl
        · exact hd ⟨1, .phase⟩ (by simp) rfl
        · exact hd ⟨2, .phase⟩ (by simp) rfl
        · exact hd ⟨3, .phase⟩ (by simp) rfl
        · exact hd ⟨4, .phase⟩ (by simp) rfl)
      have J := I0 hL
      obtain ⟨-, -, A5, n5, c5, R5, m5, d5, K5, p5, q5, e4, e7, e8⟩ := g4
      subst e8
      obtain ⟨A6, n6, c6, R6, m6, d6, K6, p6, q6, e4b, e7b, -, r4⟩ := f3 (lq.out 3 (by decide))
      have oc := r4 hL
      rw [e4] at e4b
      rw [e7] at e7b
      injection e4b with e4b
      simp at e4b
      obtain ⟨⟨rfl, rfl, rfl⟩, rfl, rfl, rfl⟩ := e4b
      injection e7b with h1 h2 h3
      subst h1
      subst h2
      subst h3
      subst e4
      subst e7
      have P := q2.keep J hrl
      have zf0 : ww.frozen? ⟨q + 1, 0, none⟩ = false := P.frozen 0
      have zf1 : ww.frozen? ⟨q + 1, 1, none⟩ = false := P.frozen 1
      have zf2 : ww.frozen? ⟨q + 1, 2, none⟩ = false := P.frozen 2
      have zf3 : ww.frozen? ⟨q + 1, 3, none⟩ = false := P.frozen 3
      have zc0 : ww.cell? ⟨q + 1, 0, none⟩ = some (.slice none 0 0) := P.cell 0
      have zc1 : ww.cell? ⟨q + 1, 1, none⟩ = some (.slice none 0 0) := P.cell 1
      have zc2 : ww.cell? ⟨q + 1, 2, none⟩ = some (.slice none 0 0) := P.cell 2
      have zc3 : ww.cell? ⟨q + 1, 3, none⟩ = some (.int .i64 0) := P.cell 3
      refine wpOp_step rfl (fun K' hK => ?_)
      go_simp
      refine hK _ _ ?_
      exact ⟨_, _, _, _, _, rfl, (fun h => absurd h (by rw [upd_self]; decide)), (kp f0), (fun _ => ⟨A5, n5, c5, R5, m5, d5, rfl, fun h => absurd (lq.out 3 (by decide)) (by rw [upd_other (by decide)] at h; rw [h]; decide)⟩), (kp f2), (fun _ => ⟨A5, n5, c5, R5, m5, d5, K5, p5, q5, rfl, rfl, upd_mono (lq.out 1 (by decide)), fun h => absurd h (by rw [upd_self]; decide)⟩), (fun _ => ⟨upd_mono (lq.out 1 (by decide)), upd_mono (lq.out 3 (by decide)), A5, n5, c5, R5, m5, d5, K5, p5, q5, rfl, rfl, rfl⟩), (fun _ => ⟨fun q hq => upd_mono (lq.out q hq), A5, n5, c5, R5, m5, d5, K5, p5, q5, ww, rfl, J, oc⟩)⟩
  case hdone =>
    rintro L ac ww hall ⟨t7, t8, t9, t10, t11, rfl, I0, f0, f1, f2, f3, f4, f5⟩
    have e0 := f0 (hall 0 (by decide))
    have e1 := f1 (hall 1 (by decide))
    have e2 := f2 (hall 2 (by decide))
    have e3 := f3 (hall 3 (by decide))
    have e4 := f4 (hall 4 (by decide))
    have e5 := f5 (hall 5 (by decide))
    clear f0 f1 f2 f3 f4 f5
    obtain ⟨-, A5, n5, c5, R5, m5, d5, K5, p5, q5, wp, rfl, r1, r9⟩ := e5
    have P := q2.keep r1 hrl
    have P4 := (((P.put 0 (.slice A5 n5 c5)).put 1 (.slice R5 m5 d5)).put 2 (.slice K5 p5 q5)).put 3 (.int .i64 0)
    have s8 : (((((wp).setCell ⟨q + 1, 0, none⟩ (.slice A5 n5 c5)).setCell ⟨q + 1, 1, none⟩ (.slice R5 m5 d5)).setCell ⟨q + 1, 2, none⟩ (.slice K5 p5 q5)).setCell ⟨q + 1, 3, none⟩ (.int .i64 0)).cell? ⟨q + 1, 0, none⟩ = some (.slice A5 n5 c5) := P4.cell 0
    have s9 : (((((wp).setCell ⟨q + 1, 0, none⟩ (.slice A5 n5 c5)).setCell ⟨q + 1, 1, none⟩ (.slice R5 m5 d5)).setCell ⟨q + 1, 2, none⟩ (.slice K5 p5 q5)).setCell ⟨q + 1, 3, none⟩ (.int .i64 0)).cell? ⟨q + 1, 1, none⟩ = some (.slice R5 m5 d5) := P4.cell 1
    have s10 : (((((wp).setCell ⟨q + 1, 0, none⟩ (.slice A5 n5 c5)).setCell ⟨q + 1, 1, none⟩ (.slice R5 m5 d5)).setCell ⟨q + 1, 2, none⟩ (.slice K5 p5 q5)).setCell ⟨q + 1, 3, none⟩ (.int .i64 0)).cell? ⟨q + 1, 2, none⟩ = some (.slice K5 p5 q5) := P4.cell 2
    have s11 : (((((wp).setCell ⟨q + 1, 0, none⟩ (.slice A5 n5 c5)).setCell ⟨q + 1, 1, none⟩ (.slice R5 m5 d5)).setCell ⟨q + 1, 2, none⟩ (.slice K5 p5 q5)).setCell ⟨q + 1, 3, none⟩ (.int .i64 0)).cell? ⟨q + 1, 3, none⟩ = some (.int .i64 0) := P4.cell 3
    have HW := HQ.out
    have D := Lib.hid (OwnLz.out (w := w) (g := q + 1) 0 r9 (by omega) (by rw [HW]; exact B2.trans (r1.mono (by have := B2.size; omega))) (by omega))
    clear I0 e0 e1 e2 e3 e4 hall r1 r9 P P4
    go_wp2_with fail
    obtain rfl := HE.out
    exact bodyPost_ret (v := .agg #[.slice A5 n5 c5, .slice R5 m5 d5, .slice K5 p5 q5, .int .i64 0]) (by simp [results, Try.results13, go_sem, *]) rfl ⟨_, _, _, rfl, D.out.1, D.out.2⟩
end Go.Proofs.Ytakdjiojahlnmaa
